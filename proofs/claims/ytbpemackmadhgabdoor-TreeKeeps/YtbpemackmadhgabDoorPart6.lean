/- The document's own copies: programs. -/
import Derived.Test.YtbpemackmadhgabDoorPart5
import Derived.Test.YtbpemackmadhgabDoorPart3
import Derived.Test.YtbpemackmadhgabDoorPart1
namespace Go.Proofs.YtbpemackmadhgabDoor
open Go.RowKit

set_option maxRecDepth 100000 in
set_option maxHeartbeats 16000000 in
theorem copy_any (p : Pr) (w : World) (hin : p.In w) (hf : p.Few) : Calls Tryd.prog 8 #[p.val] w fun e w' => (∃ q : Pr, e = .returned q.val ∧ q.Cp w' ∧ q.er = p.er ∧ q.bl.Nodup ∧ (∀ b ∈ q.bl, w.heap.size ≤ b ∧ b < w'.heap.size)) ∧ Below w.heap.size w w' := by
  obtain ⟨i0, hi, hz0, hz1, hz2⟩ := info_parts Tryd.infoI64
  have HI : Hid (Tryd.prog.info? 2 = some i0) := hi
  obtain ⟨i1, hi1, hy0, hy1, hy2⟩ := info_parts Tryd.infoPa
  have HI1 : Hid (Tryd.prog.info? 50 = some i1) := hi1
  obtain ⟨i2, hi2, hx0, hx1, hx2⟩ := info_parts Tryd.infoFu
  have HI2 : Hid (Tryd.prog.info? 36 = some i2) := hi2
  have XP : Hid (∀ w', Below w.heap.size w w' → p.In w') := fun w' h => hin.stay h
  have HFW : Hid (p.Few) := hf
  have hw1 := hf.1
  have hf1 := hf.2.1
  have q1 := hin.1
  have q2 := hin.2.1
  have q3 := hin.haveF.1.1
  have q4 := hin.haveF.1.2.1
  have HNO : Hid ((p.wa = none → p.widen.length = 0)) := fun h => by have := hin.2.2.1 h; omega
  clear hin hf hi hi1 hi2
  unfold Pr.val
  obtain ⟨B, hB⟩ : ∃ B, w.heap.size = B := ⟨_, rfl⟩
  go_enter Tryd.func8, Tryd.ntmps8
  go_upto_region 3 with (at_make; refine wpList_make_own _ rfl _ _ 22 rfl (B + 3) 2 i0 _ 1 Tryd.underlying22 HI.out hz0 hz1 _ _ _ (p.widen.length + 1) rfl rfl (by omega) (by rw [hz2]; omega) (by unfold maxLen; omega) (by simp; omega) ?_; intro w1 hown1 hgrow1)
  have hs0 : (((w.alloc (.cells #[.slice p.wa p.widen.length p.wc, .slice p.fa p.funcs.length p.fc] 25)).alloc (.cells #[.slice none 0 0, .slice none 0 0] 25)).alloc (.cells #[.slice none 0 0, .slice none 0 0] 25)).heap.size = B + 1 + 1 + 1 := by simp [hB]
  have h1B : w1.heap[B]? = some (.cells #[.slice p.wa p.widen.length p.wc, .slice p.fa p.funcs.length p.fc] 25 (0, 0)) := (hgrow1.block B (by omega) (by simp)).trans (by
    rw [Below.heap_alloc _ _ _ (by simp; omega), Below.heap_alloc _ _ _ (by simp; omega), ← hB]; exact heap_alloc_new _ _)
  have h1R : w1.heap[B + 1]? = some (.cells #[.slice none 0 0, .slice none 0 0] 25 (0, 0)) := (hgrow1.block (B + 1) (by omega) (by simp)).trans (by
    rw [Below.heap_alloc _ _ _ (by simp; omega), show B + 1 = (w.alloc (.cells #[.slice p.wa p.widen.length p.wc, .slice p.fa p.funcs.length p.fc] 25)).heap.size by simp [hB]]; exact heap_alloc_new _ _)
  have h1O : w1.heap[B + 1 + 1]? = some (.cells #[.slice none 0 0, .slice none 0 0] 25 (0, 0)) := (hgrow1.block (B + 1 + 1) (by omega) (by simp)).trans (by
    rw [show B + 1 + 1 = ((w.alloc (.cells #[.slice p.wa p.widen.length p.wc, .slice p.fa p.funcs.length p.fc] 25)).alloc (.cells #[.slice none 0 0, .slice none 0 0] 25)).heap.size by simp [hB]]; exact heap_alloc_new _ _)
  have hb1 : Below B w w1 := (((Below.refl B w).alloc (by omega) _).alloc (by simp; omega) _).alloc (by simp; omega) _ |>.grown hgrow1 (by omega) (fun k hk => by cases hk)
  rw [hs0] at hown1
  have hs1 : B + 1 + 1 + 1 < w1.heap.size := owns_lt hown1
  clear hgrow1 hs0
  obtain ⟨R, hR⟩ : ∃ R, B + 1 = R := ⟨_, rfl⟩
  rw [hR] at h1R h1O hown1 hs1 ⊢
  obtain ⟨O, hO⟩ : ∃ O, R + 1 = O := ⟨_, rfl⟩
  rw [hO] at h1O hown1 hs1 ⊢
  obtain ⟨D, hD⟩ : ∃ D, O + 1 = D := ⟨_, rfl⟩
  rw [hD] at hown1 hs1 ⊢
  have hbr : B < R := by omega
  have hro : R < O := by omega
  have hod : O < D := by omega
  have HBB : Hid (w.heap.size = B) := hB
  have XW : Hid (∀ w', Below B w w' → p.In w') := fun w' h => XP.out w' (HBB.out ▸ h)
  clear hR hO hD hB XP
  have k0 : w1.cell? ⟨B, 0, none⟩ = some (.slice p.wa p.widen.length p.wc) := by rw [Lib.cell_of_heap h1B]; rfl
  have HO1 : Hid (w1.ownsRow (B + 3) 2 1 (.slice (some ⟨D, 0, none⟩) 0 (p.widen.length + 1)) 0 []) := hown1
  have HN1 : Hid (∀ ad, p.wa = some ad → ∀ j u, (p.widen.flatMap cI)[j]? = some u → w1.cell? (ad.add j) = some u) := src_news (k := 1) (XW.out w1 hb1).thr.2.2 (fun _ => rfl) (by decide)
  have HL1 : Hid ((p.widen.flatMap cI).length = p.widen.length * 1) := flat_len (f := cI) (k := 1) (fun _ => rfl) p.widen
  have HC1 : Hid (∀ u ∈ p.widen.flatMap cI, u.oneCell' = true) := fun u hu => by
    obtain ⟨z, _, hz⟩ := List.mem_flatMap.1 hu
    obtain rfl := List.mem_singleton.1 hz
    rfl
  clear hown1
  go_upto_region 4 with (at_builtin; refine wpList_append_src _ rfl _ _ 22 rfl (B + 3) 2 i0 1 Tryd.underlying22 HI.out hz1 D 0 (p.widen.length + 1) [] rfl HO1.out p.wa p.widen.length p.wc (p.widen.flatMap cI) rfl HL1.out HNO.out HN1.out HC1.out (by omega) ?_; intro w2 hown2 hgrow2)
  rw [Nat.zero_add, List.nil_append] at hown2
  have hK2 : Kp D w1 w2 := (Kp.refl D w1).grown hgrow2
  have hb2 : Below B w w2 := hb1.grown hgrow2 (by omega) (fun k hk => by simp at hk; omega)
  have hs2 : D < w2.heap.size := owns_lt hown2
  have HO2 : Hid ((w2.alloc (.cells #[.int .i64 (-77)] 2)).ownsRow (B + 3) 2 1 (.slice (some ⟨D, 0, none⟩) p.widen.length (p.widen.length + 1)) p.widen.length (p.widen.flatMap cI)) := hown2.alloc _
  have HN2 : Hid (∀ i u, ([.int .i64 (-77)] : List Value)[i]? = some u → (w2.alloc (.cells #[.int .i64 (-77)] 2)).cell? ((⟨w2.heap.size, 0, none⟩ : Addr).add i) = some u) := World.news_of_block (heap_alloc_new w2 _)
  have HC2 : Hid (∀ u ∈ ([.int .i64 (-77)] : List Value), u.oneCell' = true) := List.all_eq_true.1 (show ([.int .i64 (-77)] : List Value).all (fun u => u.oneCell') = true from rfl)
  clear hown2 hgrow2 HO1 HN1 HL1 HC1 k0
  go_upto_region 5 with (at_builtin; refine wpList_append_own_spare _ rfl _ _ 22 rfl (B + 3) 2 i0 1 Tryd.underlying22 HI.out hz1 D p.widen.length (p.widen.length + 1) (p.widen.flatMap cI) rfl HO2.out ⟨w2.heap.size, 0, none⟩ 1 1 [.int .i64 (-77)] rfl rfl HN2.out HC2.out (by omega) ?_; intro w3 hown3 hgrow3)
  have hK3 : Kp D w1 w3 := (hK2.alloc _).grown hgrow3
  have hb3 : Below B w w3 := (hb2.alloc (by omega) _).grown hgrow3 (by simp; omega) (fun k hk => by simp at hk; omega)
  have hs3 : D < w3.heap.size := owns_lt hown3
  have HD3 : Hid (w3.heap[D]? = some (.cells ⟨p.widen.flatMap cI ++ [.int .i64 (-77)]⟩ 2 (0, 0))) := owns_full hown3
  have h3B := (hK3.2 B (by omega) (by omega)).trans h1B
  have h3R := (hK3.2 R (by omega) (by omega)).trans h1R
  have h3O := (hK3.2 O (by omega) (by omega)).trans h1O
  clear hown3 hgrow3 HO2 HN2 HC2 hK2 hK3 hb1 hb2 h1B h1R h1O hs1 hs2
  have k0 : w3.cell? ⟨B, 0, none⟩ = some (.slice p.wa p.widen.length p.wc) := by rw [Lib.cell_of_heap h3B]; rfl
  have k1 : w3.cell? ⟨B, 1, none⟩ = some (.slice p.fa p.funcs.length p.fc) := by rw [Lib.cell_of_heap h3B]; rfl
  have o0 : w3.cell? ⟨O, 0, none⟩ = some (.slice none 0 0) := by rw [Lib.cell_of_heap h3O]; rfl
  have of : ∀ i, w3.frozen? ⟨O, i, none⟩ = false := fun i => by simp [World.frozen?, h3O]
  have hne : B ≠ O := by omega
  have hne' : O ≠ B := by omega
  go_upto_region 6 with fail
  obtain ⟨W4, hW4⟩ : ∃ W4, w3.setCell ⟨O, 0, none⟩ (.slice (some ⟨D, 0, none⟩) p.widen.length (p.widen.length + 1)) = W4 := ⟨_, rfl⟩
  rw [hW4]
  have hK4 : Kp O w3 W4 := by rw [← hW4]; exact (Kp.refl O w3).set 0 _
  have h4O : W4.heap[O]? = some (.cells #[.slice (some ⟨D, 0, none⟩) p.widen.length (p.widen.length + 1), .slice none 0 0] 25 (0, 0)) := by rw [← hW4]; exact set_list h3O 0 _
  have h4B := (hK4.2 B (by omega) (by omega)).trans h3B
  have h4R := (hK4.2 R (by omega) (by omega)).trans h3R
  have h4D := (hK4.2 D (by omega) (by omega)).trans HD3.out
  have hb4 : Below B w W4 := by rw [← hW4]; exact Below.setCell (p := ⟨O, 0, none⟩) hb3 (by show B ≤ O; omega) _
  have hs4 : D < W4.heap.size := Nat.lt_of_lt_of_le hs3 hK4.1
  clear hW4 hK4 k0 k1 o0 of h3B h3R h3O HD3 hb3 hs3
  have k1 : W4.cell? ⟨B, 1, none⟩ = some (.slice p.fa p.funcs.length p.fc) := by rw [Lib.cell_of_heap h4B]; rfl
  obtain ⟨F, hF⟩ : ∃ F, W4.heap.size = F := ⟨_, rfl⟩
  go_wp2_with (at_make; refine wpList_make_own _ rfl _ _ 23 rfl F 36 i2 _ 3 Tryd.underlying23 HI2.out hx0 hx1 _ _ _ (p.funcs.length + 1) rfl rfl (by omega) (by rw [hx2]; omega) (by unfold maxLen; omega) (by omega) ?_; intro w5 hown5 hgrow5)
  rw [hF] at hown5
  have hs5 : F < w5.heap.size := owns_lt hown5
  have h5B := (hgrow5.block B (by omega) (by simp)).trans h4B
  have h5R := (hgrow5.block R (by omega) (by simp)).trans h4R
  have h5O := (hgrow5.block O (by omega) (by simp)).trans h4O
  have h5D := (hgrow5.block D (by omega) (by simp)).trans h4D
  have hb5 : Below B w w5 := hb4.grown hgrow5 (by omega) (fun k hk => by cases hk)
  have hDF : D < F := by omega
  have HO5 : Hid (w5.ownsRow F 36 3 (.slice (some ⟨F, 0, none⟩) 0 (p.funcs.length + 1)) 0 []) := hown5
  have H5 : Hid (w5.heap[B]? = some (.cells #[.slice p.wa p.widen.length p.wc, .slice p.fa p.funcs.length p.fc] 25 (0, 0)) ∧ w5.heap[R]? = some (.cells #[.slice none 0 0, .slice none 0 0] 25 (0, 0)) ∧ w5.heap[O]? = some (.cells #[.slice (some ⟨D, 0, none⟩) p.widen.length (p.widen.length + 1), .slice none 0 0] 25 (0, 0)) ∧ w5.heap[D]? = some (.cells ⟨p.widen.flatMap cI ++ [.int .i64 (-77)]⟩ 2 (0, 0))) := ⟨h5B, h5R, h5O, h5D⟩
  clear hown5 hgrow5 h4B h4R h4O h4D hb4 hs4 k1 h5B h5R h5O h5D hF
  go_wp2_with fail
  go_loopw [5, 6] (fun t5 t6 wr => ∃ (fl : List Fu), t6 = .int .i64 fl.length ∧ fl.length ≤ p.funcs.length ∧ t5 = .slice (some ⟨F, 0, none⟩) fl.length (p.funcs.length + 1) ∧ wr.ownsRow F 36 3 (.slice (some ⟨F, 0, none⟩) fl.length (p.funcs.length + 1)) fl.length (fl.flatMap Fu.cells) ∧ (∀ x ∈ fl, x.Cp wr) ∧ fl.map Fu.er = (p.funcs.take fl.length).map Fu.er ∧ (fl.flatMap Fu.bl).Nodup ∧ (∀ b ∈ fl.flatMap Fu.bl, F < b ∧ b < wr.heap.size) ∧ Kp F w5 wr ∧ Below B w wr) (fun _ t6 _ => p.funcs.length - (intOf t6).toNat)
  case atStart => exact ⟨[], rfl, Nat.zero_le _, rfl, HO5.out, by simp, by simp, by simp, by simp, Kp.refl _ _, hb5⟩
  case round =>
    clear HO5 hb5
    obtain ⟨fl, rfl, hle, rfl, hown, hcp, her, hnd, hbd, hkp, hb⟩ := hrel
    obtain ⟨j, hj⟩ : ∃ j, fl.length = j := ⟨_, rfl⟩
    have HJ : Hid (fl.length = j) := hj
    rw [hj] at hown hle her ⊢
    have HO : Hid (wr.ownsRow F 36 3 (.slice (some ⟨F, 0, none⟩) j (p.funcs.length + 1)) j (fl.flatMap Fu.cells)) := hown
    have HR : Hid ((∀ x ∈ fl, x.Cp wr) ∧ fl.map Fu.er = (p.funcs.take j).map Fu.er ∧ (fl.flatMap Fu.bl).Nodup ∧ (∀ b ∈ fl.flatMap Fu.bl, F < b ∧ b < wr.heap.size)) := ⟨hcp, her, hnd, hbd⟩
    have HKP : Hid (Kp F w5 wr) := hkp
    have BW : Hid (Below B w wr) := hb
    have hFw : F < wr.heap.size := owns_lt hown
    have hrB := (hkp.2 B (by omega) (by omega)).trans H5.out.1
    have k1 : wr.cell? ⟨B, 1, none⟩ = some (.slice p.fa p.funcs.length p.fc) := by rw [Lib.cell_of_heap hrB]; rfl
    clear hown hcp her hnd hbd hkp hb hj hrB
    by_cases hlt : j < p.funcs.length
    · have hli : (j : Int) < (p.funcs.length : Int) := by omega
      obtain ⟨b, o, ea, hcell⟩ := rowF_cells (XW.out wr BW.out).haveF.1.2.2 hlt
      have XI : Hid (∀ w', Below B w w' → p.funcs[j].In w') := fun w' h => (XW.out w' h).haveF.2 p.funcs[j] (List.getElem_mem hlt)
      have XF : Hid (p.funcs[j].Few) := HFW.out.2.2 _ (List.getElem_mem hlt)
      have HT : Hid ((p.funcs.take (j + 1)).map Fu.er = (p.funcs.take j).map Fu.er ++ [p.funcs[j].er]) := by
        show _ = _
        rw [List.take_succ_eq_append_getElem hlt, List.map_append]; rfl
      generalize p.funcs[j] = f at *
      have c0 := hcell 0 _ rfl
      have c1 := hcell 1 _ rfl
      have c2 := hcell 2 _ rfl
      simp only [← Nat.add_assoc, Nat.add_zero] at c0 c1 c2
      rw [ea] at k1
      clear hcell ea
      obtain ⟨g1, g2, g3, g4, g5, g6, _⟩ := XI.out w (Below.refl _ _)
      have HOK : Hid (f.name.size ≤ 140737488351232 ∧ ∀ p ∈ f.params, p.Ok) := ⟨g1, g6⟩
      have HNP : Hid (f.pa = none → f.params.length = 0) := fun h => by have := g4 h; omega
      have hp1 := XF.out.1
      clear g1 g4 g5 g6
      obtain ⟨X, hX⟩ : ∃ X, wr.heap.size = X := ⟨_, rfl⟩
      go_upto_region 12 with (at_make; refine wpList_make_own _ rfl _ _ 33 rfl (X + 1) 50 i1 _ 3 Tryd.underlying33 HI1.out hy0 hy1 _ _ _ (f.params.length + 1) rfl rfl (by omega) (by rw [hy2]; omega) (by unfold maxLen; omega) (by simp; omega) ?_; intro v1 hown1 hgrow1)
      have hsx : (wr.alloc (.cells #[.string f.name, .slice f.pa f.params.length f.pc, .slice f.ba f.body.length f.bc] 36)).heap.size = X + 1 := by simp [hX]
      rw [hsx] at hown1
      have h1X : v1.heap[X]? = some (.cells #[.string f.name, .slice f.pa f.params.length f.pc, .slice f.ba f.body.length f.bc] 36 (0, 0)) := (hgrow1.block X (by omega) (by simp)).trans (by rw [← hX]; exact heap_alloc_new _ _)
      have hK1 : ∀ k, k < X → v1.heap[k]? = wr.heap[k]? := fun k h => (hgrow1.block k (by omega) (by simp)).trans (Below.heap_alloc _ _ _ (by omega))
      have hb1 : Below B w v1 := (BW.out.alloc (by omega) _).grown hgrow1 (by omega) (fun k hk => by cases hk)
      have hs1 : X + 1 < v1.heap.size := owns_lt hown1
      have HX : Hid (wr.heap.size = X) := hX
      have hFX : F < X := by omega
      clear hgrow1 hsx c0 c1 c2 k1 hX hFw
      obtain ⟨Q, hQ⟩ : ∃ Q, X + 1 = Q := ⟨_, rfl⟩
      rw [hQ] at hown1 hs1 ⊢
      have hXQ : X < Q := by omega
      have m1 : v1.cell? ⟨X, 1, none⟩ = some (.slice f.pa f.params.length f.pc) := by rw [Lib.cell_of_heap h1X]; rfl
      have HO1 : Hid (v1.ownsRow Q 50 3 (.slice (some ⟨Q, 0, none⟩) 0 (f.params.length + 1)) 0 []) := hown1
      have HN1 : Hid (∀ ad, f.pa = some ad → ∀ j u, (f.params.flatMap Pa.cells)[j]? = some u → v1.cell? (ad.add j) = some u) := src_news (k := 3) (XI.out v1 hb1).2.2.2.2.1 (fun _ => rfl) (by decide)
      have HL1 : Hid ((f.params.flatMap Pa.cells).length = f.params.length * 3) := flat_len (f := Pa.cells) (k := 3) (fun _ => rfl) f.params
      have HC1 : Hid (∀ u ∈ f.params.flatMap Pa.cells, u.oneCell' = true) := fun u hu => by
        obtain ⟨z, _, hz⟩ := List.mem_flatMap.1 hu
        simp [Pa.cells] at hz
        rcases hz with rfl | rfl | rfl <;> rfl
      clear hown1 hQ
      go_upto_region 13 with (at_builtin; refine wpList_append_src _ rfl _ _ 33 rfl Q 50 i1 3 Tryd.underlying33 HI1.out hy1 Q 0 (f.params.length + 1) [] rfl HO1.out f.pa f.params.length f.pc (f.params.flatMap Pa.cells) rfl HL1.out HNP.out HN1.out HC1.out (by omega) ?_; intro v2 hown2 hgrow2)
      rw [Nat.zero_add, List.nil_append] at hown2
      have hK2 : Kp Q v1 v2 := (Kp.refl Q v1).grown hgrow2
      have hb2 : Below B w v2 := hb1.grown hgrow2 (by omega) (fun k hk => by simp at hk; omega)
      have hs2 : Q < v2.heap.size := owns_lt hown2
      have HO2 : Hid ((v2.alloc (.cells #[.string ⟨#[63]⟩, .int .i64 0, .int .i64 0] 50)).ownsRow Q 50 3 (.slice (some ⟨Q, 0, none⟩) f.params.length (f.params.length + 1)) f.params.length (f.params.flatMap Pa.cells)) := hown2.alloc _
      have HN2 : Hid (∀ i u, senP[i]? = some u → (v2.alloc (.cells #[.string ⟨#[63]⟩, .int .i64 0, .int .i64 0] 50)).cell? ((⟨v2.heap.size, 0, none⟩ : Addr).add i) = some u) := World.news_of_block (heap_alloc_new v2 _)
      have HC2 : Hid (∀ u ∈ senP, u.oneCell' = true) := List.all_eq_true.1 (show senP.all (fun u => u.oneCell') = true from rfl)
      clear hown2 hgrow2 HO1 HN1 HL1 HC1 m1
      go_upto_region 14 with (at_builtin; refine wpList_append_own_spare _ rfl _ _ 33 rfl Q 50 i1 3 Tryd.underlying33 HI1.out hy1 Q f.params.length (f.params.length + 1) (f.params.flatMap Pa.cells) rfl HO2.out ⟨v2.heap.size, 0, none⟩ 1 1 senP rfl rfl HN2.out HC2.out (by omega) ?_; intro v3 hown3 hgrow3)
      have hK3 : Kp Q v1 v3 := (hK2.alloc _).grown hgrow3
      have hb3 : Below B w v3 := (hb2.alloc (by omega) _).grown hgrow3 (by simp; omega) (fun k hk => by simp at hk; omega)
      have hs3 : Q < v3.heap.size := owns_lt hown3
      have h3Q : v3.heap[Q]? = some (.cells ⟨f.params.flatMap Pa.cells ++ senP⟩ 50 (0, 0)) := owns_full hown3
      have h3X := (hK3.2 X (by omega) (by omega)).trans h1X
      have HKO : Hid (∀ k, k < X → v3.heap[k]? = wr.heap[k]?) := fun k h => (hK3.2 k (by omega) (by omega)).trans (hK1 k h)
      clear hown3 hgrow3 HO2 HN2 HC2 hK2 hK3 hb1 hb2 h1X hK1 hs1 hs2
      have m1 : v3.cell? ⟨X, 1, none⟩ = some (.slice f.pa f.params.length f.pc) := by rw [Lib.cell_of_heap h3X]; rfl
      have m2 : v3.cell? ⟨X, 2, none⟩ = some (.slice f.ba f.body.length f.bc) := by rw [Lib.cell_of_heap h3X]; rfl
      have mf : ∀ i, v3.frozen? ⟨X, i, none⟩ = false := fun i => by simp [World.frozen?, h3X]
      go_wp2_with fail
      obtain ⟨V4, hV4⟩ : ∃ V4, v3.setCell ⟨X, 1, none⟩ (.slice (some ⟨Q, 0, none⟩) f.params.length (f.params.length + 1)) = V4 := ⟨_, rfl⟩
      rw [hV4]
      have hK4 : Kp X v3 V4 := by rw [← hV4]; exact (Kp.refl X v3).set 1 _
      have h4X : V4.heap[X]? = some (.cells #[.string f.name, .slice (some ⟨Q, 0, none⟩) f.params.length (f.params.length + 1), .slice f.ba f.body.length f.bc] 36 (0, 0)) := by rw [← hV4]; exact set_list h3X 1 _
      have hb4 : Below B w V4 := by rw [← hV4]; exact Below.setCell (p := ⟨X, 1, none⟩) hb3 (by show B ≤ X; omega) _
      have hs4 : Q < V4.heap.size := Nat.lt_of_lt_of_le hs3 hK4.1
      clear hV4 m1 m2 mf h3X hb3
      refine (stmtsOf_any f.body f.ba f.bc V4 (XI.out V4 hb4).2.2.2.2.2.2 XF.out.2.1 XF.out.2.2).mono ?_
      rintro e v5 ⟨⟨gB, lB, rfl, hr5, hc5, he5, hn5, hd5⟩, hb5⟩
      have PB : Hid (RowCp v5 (some ⟨gB, 0, none⟩) (f.body.length + 1) lB.length 216 53 (lB.flatMap St.cells ++ senS) ∧ (∀ y ∈ lB, y.Cp v5) ∧ erS lB = erS f.body ∧ (gB :: blS lB).Nodup ∧ (∀ b ∈ gB :: blS lB, Q < b ∧ b < v5.heap.size)) := ⟨hr5, hc5, he5, hn5, fun b hb => ⟨by have := (hd5 b hb).1; omega, (hd5 b hb).2⟩⟩
      have h5X := (hb5.block X (by omega)).trans h4X
      have H5Q : Hid (v5.heap[Q]? = some (.cells ⟨f.params.flatMap Pa.cells ++ senP⟩ 50 (0, 0))) := (hb5.block Q (by omega)).trans ((hK4.2 Q hs3 (by omega)).trans h3Q)
      have HK5 : Hid (∀ k, k < X → v5.heap[k]? = wr.heap[k]?) := fun k h => (hb5.block k (by omega)).trans ((hK4.2 k (by omega) (by omega)).trans (HKO.out k h))
      have hb5' : Below B w v5 := hb4.trans (hb5.mono (by omega))
      have hs5 : Q < v5.heap.size := Nat.lt_of_lt_of_le hs4 hb5.size
      clear hr5 hc5 he5 hn5 hd5 hb5 h4X hK4 hb4 hs4 h3Q hs3 HKO
      have m2 : v5.cell? ⟨X, 2, none⟩ = some (.slice f.ba f.body.length f.bc) := by rw [Lib.cell_of_heap h5X]; rfl
      have mf : ∀ i, v5.frozen? ⟨X, i, none⟩ = false := fun i => by simp [World.frozen?, h5X]
      go_upto_region 16 with fail
      obtain ⟨V6, hV6⟩ : ∃ V6, v5.setCell ⟨X, 2, none⟩ (.slice (some ⟨gB, 0, none⟩) f.body.length (f.body.length + 1)) = V6 := ⟨_, rfl⟩
      rw [hV6]
      have HK6 : Hid (Kp X v5 V6) := by rw [← hV6]; exact (Kp.refl X v5).set 2 _
      have h6X : V6.heap[X]? = some (.cells #[.string f.name, .slice (some ⟨Q, 0, none⟩) f.params.length (f.params.length + 1), .slice (some ⟨gB, 0, none⟩) f.body.length (f.body.length + 1)] 36 (0, 0)) := by rw [← hV6]; exact set_list h5X 2 _
      have HB6 : Hid (Below B w V6) := by rw [← hV6]; exact Below.setCell (p := ⟨X, 2, none⟩) hb5' (by show B ≤ X; omega) _
      have HS6 : Hid (V6.heap.size = v5.heap.size ∧ Q < v5.heap.size) := ⟨by rw [← hV6, size_set], hs5⟩
      clear hV6 m2 mf h5X hb5' hs5
      have n0 : V6.cell? ⟨X, 0, none⟩ = some (.string f.name) := by rw [Lib.cell_of_heap h6X]; rfl
      have n1 : V6.cell? ⟨X, 1, none⟩ = some (.slice (some ⟨Q, 0, none⟩) f.params.length (f.params.length + 1)) := by rw [Lib.cell_of_heap h6X]; rfl
      have n2 : V6.cell? ⟨X, 2, none⟩ = some (.slice (some ⟨gB, 0, none⟩) f.body.length (f.body.length + 1)) := by rw [Lib.cell_of_heap h6X]; rfl
      have HO7 : Hid ((V6.alloc (.cells #[.string f.name, .slice (some ⟨Q, 0, none⟩) f.params.length (f.params.length + 1), .slice (some ⟨gB, 0, none⟩) f.body.length (f.body.length + 1)] 36)).ownsRow F 36 3 (.slice (some ⟨F, 0, none⟩) j (p.funcs.length + 1)) j (fl.flatMap Fu.cells)) :=
        owns_heap HO.out ((Below.heap_alloc _ _ _ (by have := HS6.out; omega)).trans ((HK6.out.2 F (by have := HS6.out; omega) (by omega)).trans (HK5.out F hFX)))
      have HN7 : Hid (∀ i u, ([.string f.name, .slice (some ⟨Q, 0, none⟩) f.params.length (f.params.length + 1), .slice (some ⟨gB, 0, none⟩) f.body.length (f.body.length + 1)] : List Value)[i]? = some u → (V6.alloc (.cells #[.string f.name, .slice (some ⟨Q, 0, none⟩) f.params.length (f.params.length + 1), .slice (some ⟨gB, 0, none⟩) f.body.length (f.body.length + 1)] 36)).cell? ((⟨V6.heap.size, 0, none⟩ : Addr).add i) = some u) := World.news_of_block (heap_alloc_new V6 _)
      have HC7 : Hid (∀ u ∈ ([.string f.name, .slice (some ⟨Q, 0, none⟩) f.params.length (f.params.length + 1), .slice (some ⟨gB, 0, none⟩) f.body.length (f.body.length + 1)] : List Value), u.oneCell' = true) := List.all_eq_true.1 (show ([.string f.name, .slice (some ⟨Q, 0, none⟩) f.params.length (f.params.length + 1), .slice (some ⟨gB, 0, none⟩) f.body.length (f.body.length + 1)] : List Value).all (fun u => u.oneCell') = true from rfl)
      clear h6X
      go_wp2_with (at_builtin; refine wpList_append_own_spare _ rfl _ _ 23 rfl F 36 i2 3 Tryd.underlying23 HI2.out hx1 F j (p.funcs.length + 1) (fl.flatMap Fu.cells) rfl HO7.out ⟨V6.heap.size, 0, none⟩ 1 1 [.string f.name, .slice (some ⟨Q, 0, none⟩) f.params.length (f.params.length + 1), .slice (some ⟨gB, 0, none⟩) f.body.length (f.body.length + 1)] rfl rfl HN7.out HC7.out (by omega) ?_; intro v7 hown7 hgrow7)
      have HW7 : Hid (v7.ownsRow F 36 3 (.slice (some ⟨F, 0, none⟩) (j + 1) (p.funcs.length + 1)) (j + 1) (fl.flatMap Fu.cells ++ [.string f.name, .slice (some ⟨Q, 0, none⟩) f.params.length (f.params.length + 1), .slice (some ⟨gB, 0, none⟩) f.body.length (f.body.length + 1)])) := hown7
      have HK7 : Hid (V6.heap.size < v7.heap.size ∧ ∀ k, k < V6.heap.size → k ≠ F → v7.heap[k]? = V6.heap[k]?) := ⟨by have := hgrow7.size; simp at this; omega, fun k h1 h2 => (hgrow7.block k (by simp; omega) (by simpa using h2)).trans (Below.heap_alloc _ _ _ h1)⟩
      have BW7 : Hid (Below B w v7) := (HB6.out.alloc (by have := HS6.out; omega) _).grown hgrow7 (by have := HS6.out; simp; omega) (fun k hk => by simp at hk; omega)
      clear hown7 hgrow7 HO7 HN7 HC7 n0 n1 n2
      go_wp2_with fail
      go_roundw
      case rel =>
        obtain ⟨hrB, hcB, heB, hnB, hdB⟩ := PB.out
        obtain ⟨hcp, her, hnd, hbd⟩ := HR.out
        obtain ⟨hs7, hk7⟩ := HK7.out
        obtain ⟨hs6, hq5⟩ := HS6.out
        have hkp := HKP.out
        have hx := HX.out
        have hji := HJ.out
        have hlB : lB.length = f.body.length := erS_len heB
        obtain ⟨z, hzd⟩ : ∃ z : Fu, z = ⟨f.name, some ⟨Q, 0, none⟩, f.params.length + 1, f.params, some ⟨gB, 0, none⟩, f.body.length + 1, lB⟩ := ⟨_, rfl⟩
        have hzb : z.bl = Q :: gB :: blS lB := by rw [hzd]; rfl
        have hll : (fl ++ [z]).length = j + 1 := by simp; omega
        have f5 : ∀ k, X < k → k < v5.heap.size → v7.heap[k]? = v5.heap[k]? := fun k h1 h2 => (hk7 k (by omega) (by omega)).trans (HK6.out.2 k h2 (by omega))
        have fo : ∀ k, k < X → k ≠ F → v7.heap[k]? = wr.heap[k]? := fun k h1 h2 => (hk7 k (by omega) h2).trans ((HK6.out.2 k (by omega) (by omega)).trans (HK5.out k h1))
        have hbl : (fl ++ [z]).flatMap Fu.bl = fl.flatMap Fu.bl ++ (Q :: gB :: blS lB) := by rw [List.flatMap_append]; simp [hzb]
        refine ⟨fl ++ [z], ?_, ?_, ?_, ?_, ?_, ?_, ?_, ?_, ⟨by have := hkp.1; omega, fun k h1 h2 => (fo k (by have := hkp.1; omega) h2).trans (hkp.2 k h1 h2)⟩, BW7.out⟩
        · rw [hll]; go_num
        · rw [hll]; omega
        · rw [hll]
        · rw [hll, List.flatMap_append]
          have h7 := HW7.out
          rw [hzd]
          simpa [Fu.cells, hlB] using h7
        · intro y hy
          rcases List.mem_append.1 hy with hy | hy
          · refine (hcp y hy).kept fun b h => ?_
            have hb' := hbd b (List.mem_flatMap.2 ⟨y, hy, h⟩)
            exact fo b (by omega) (by omega)
          · obtain rfl := List.mem_singleton.1 hy
            rw [hzd]
            refine ⟨HOK.out.1, ⟨Q, rfl, rfl, by show (f.params.length + 1) * 32 ≤ _; omega, (f5 Q (by omega) hq5).trans H5Q.out⟩, HOK.out.2, hrB.keep (f5 gB (by have := hdB gB (List.mem_cons_self ..); omega) (hdB gB (List.mem_cons_self ..)).2), fun x hx => (hcB x hx).kept fun b h => ?_⟩
            have := hdB b (List.mem_cons_of_mem _ (by rw [blS_map]; exact List.mem_flatMap.2 ⟨x, hx, h⟩))
            exact f5 b (by omega) this.2
        · rw [hll, HT.out, ← her, List.map_append]
          simp only [List.map_cons, List.map_nil]
          rw [hzd]
          simp only [Fu.er, heB]
        · rw [hbl, List.nodup_append]
          refine ⟨hnd, List.nodup_cons.2 ⟨fun h => ?_, hnB⟩, fun p hp q hq => ?_⟩
          · have := hdB Q h; omega
          · have := hbd p hp
            rcases List.mem_cons.1 hq with hq | hq
            · omega
            · have := hdB q hq; omega
        · intro b h
          rw [hbl] at h
          rcases List.mem_append.1 h with h | h
          · have := hbd b h; omega
          rcases List.mem_cons.1 h with h | h
          · omega
          · have := hdB b h; omega
      case measure => simp [intOf]; omega
    · obtain rfl : j = p.funcs.length := by omega
      have HO9 : Hid ((wr.alloc (.cells #[.string ⟨#[63]⟩, .slice none 0 0, .slice none 0 0] 36)).ownsRow F 36 3 (.slice (some ⟨F, 0, none⟩) p.funcs.length (p.funcs.length + 1)) p.funcs.length (fl.flatMap Fu.cells)) := HO.out.alloc _
      have HN9 : Hid (∀ i u, senF[i]? = some u → (wr.alloc (.cells #[.string ⟨#[63]⟩, .slice none 0 0, .slice none 0 0] 36)).cell? ((⟨wr.heap.size, 0, none⟩ : Addr).add i) = some u) := World.news_of_block (heap_alloc_new wr _)
      have HC9 : Hid (∀ u ∈ senF, u.oneCell' = true) := List.all_eq_true.1 (show senF.all (fun u => u.oneCell') = true from rfl)
      go_upto_region 18 with (at_builtin; refine wpList_append_own_spare _ rfl _ _ 23 rfl F 36 i2 3 Tryd.underlying23 HI2.out hx1 F p.funcs.length (p.funcs.length + 1) (fl.flatMap Fu.cells) rfl HO9.out ⟨wr.heap.size, 0, none⟩ 1 1 senF rfl rfl HN9.out HC9.out (by omega) ?_; intro w9 hown9 hgrow9)
      have hK9 : Kp F wr w9 := ((Kp.refl F wr).alloc _).grown hgrow9
      have hK59 : Kp F w5 w9 := HKP.out.trans hK9
      have hb9 : Below B w w9 := (BW.out.alloc (by omega) _).grown hgrow9 (by simp; omega) (fun k hk => by simp at hk; omega)
      have h9F : w9.heap[F]? = some (.cells ⟨fl.flatMap Fu.cells ++ senF⟩ 36 (0, 0)) := owns_full hown9
      have hs9 : F < w9.heap.size := owns_lt hown9
      have h9B := (hK59.2 B (by omega) (by omega)).trans H5.out.1
      have h9R := (hK59.2 R (by omega) (by omega)).trans H5.out.2.1
      have h9O := (hK59.2 O (by omega) (by omega)).trans H5.out.2.2.1
      have H9 : Hid (Kp F wr w9 ∧ w9.heap[D]? = some (.cells ⟨p.widen.flatMap cI ++ [.int .i64 (-77)]⟩ 2 (0, 0)) ∧ w9.heap[F]? = some (.cells ⟨fl.flatMap Fu.cells ++ senF⟩ 36 (0, 0)) ∧ F < w9.heap.size) := ⟨hK9, (hK59.2 D (by omega) (by omega)).trans H5.out.2.2.2, h9F, hs9⟩
      clear hown9 hgrow9 HO9 HN9 HC9 hK59 hK9 h9F k1
      have m1 : w9.cell? ⟨B, 1, none⟩ = some (.slice p.fa p.funcs.length p.fc) := by rw [Lib.cell_of_heap h9B]; rfl
      have o0 : w9.cell? ⟨O, 0, none⟩ = some (.slice (some ⟨D, 0, none⟩) p.widen.length (p.widen.length + 1)) := by rw [Lib.cell_of_heap h9O]; rfl
      have o1 : w9.cell? ⟨O, 1, none⟩ = some (.slice none 0 0) := by rw [Lib.cell_of_heap h9O]; rfl
      have of : ∀ i, w9.frozen? ⟨O, i, none⟩ = false := fun i => by simp [World.frozen?, h9O]
      have r0 : w9.cell? ⟨R, 0, none⟩ = some (.slice none 0 0) := by rw [Lib.cell_of_heap h9R]; rfl
      have r1 : w9.cell? ⟨R, 1, none⟩ = some (.slice none 0 0) := by rw [Lib.cell_of_heap h9R]; rfl
      have rf : ∀ i, w9.frozen? ⟨R, i, none⟩ = false := fun i => by simp [World.frozen?, h9R]
      have hor : O ≠ R := by omega
      have hor' : R ≠ O := by omega
      clear h9B h9R h9O
      go_wp2_with fail
      refine bodyPost_ret (v := .agg #[.slice (some ⟨D, 0, none⟩) p.widen.length (p.widen.length + 1), .slice (some ⟨F, 0, none⟩) p.funcs.length (p.funcs.length + 1)]) (by simp [results, Tryd.results8, go_sem, r0, r1]) rfl ?_
      have hB := HBB.out
      obtain ⟨hK9, h9D, h9F, _⟩ := H9.out
      obtain ⟨hcp, her, hnd, hbd⟩ := HR.out
      have hji := HJ.out
      have kk : ∀ k, k ≠ O → k ≠ R → (((w9.setCell ⟨O, 1, none⟩ (.slice (some ⟨F, 0, none⟩) p.funcs.length (p.funcs.length + 1))).setCell ⟨R, 0, none⟩ (.slice (some ⟨D, 0, none⟩) p.widen.length (p.widen.length + 1))).setCell ⟨R, 1, none⟩ (.slice (some ⟨F, 0, none⟩) p.funcs.length (p.funcs.length + 1))).heap[k]? = w9.heap[k]? := fun k h1 h2 => by
        rw [Below.heap_setCell _ _ _ _ h2, Below.heap_setCell _ _ _ _ h2, Below.heap_setCell _ _ _ _ h1]
      have hsz : (((w9.setCell ⟨O, 1, none⟩ (.slice (some ⟨F, 0, none⟩) p.funcs.length (p.funcs.length + 1))).setCell ⟨R, 0, none⟩ (.slice (some ⟨D, 0, none⟩) p.widen.length (p.widen.length + 1))).setCell ⟨R, 1, none⟩ (.slice (some ⟨F, 0, none⟩) p.funcs.length (p.funcs.length + 1))).heap.size = w9.heap.size := by rw [size_set, size_set, size_set]
      refine ⟨⟨⟨some ⟨D, 0, none⟩, p.widen.length + 1, p.widen, some ⟨F, 0, none⟩, p.funcs.length + 1, fl⟩, ?_, ⟨⟨D, rfl, rfl, by show (p.widen.length + 1) * 8 ≤ _; omega, (kk D (by omega) (by omega)).trans h9D⟩, (XW.out w (Below.refl _ _)).2.2.2.2.1, ⟨F, rfl, by show p.funcs.length + 1 = fl.length + 1; omega, by show (p.funcs.length + 1) * 64 ≤ _; omega, (kk F (by omega) (by omega)).trans h9F⟩, fun y hy => (hcp y hy).kept fun b hb => ?_⟩, ?_, ?_, ?_⟩, ?_⟩
      · simp only [hji]
      · have := hbd b (List.mem_flatMap.2 ⟨y, hy, hb⟩)
        exact (kk b (by omega) (by omega)).trans (hK9.2 b this.2 (by omega))
      · simp only [Pr.er, her, List.take_length]
      · refine List.nodup_cons.2 ⟨fun h => ?_, List.nodup_cons.2 ⟨fun h => ?_, hnd⟩⟩
        · rcases List.mem_cons.1 h with h | h
          · have : D = F := h
            omega
          · have := hbd D h; omega
        · have := hbd F h; omega
      · intro b h
        rw [hsz]
        have := hK9.1
        rcases List.mem_cons.1 h with h | h
        · have : b = D := h
          omega
        rcases List.mem_cons.1 h with h | h
        · have : b = F := h
          omega
        · have := hbd b h; omega
      · rw [hB]
        exact Below.setCell (p := ⟨R, 1, none⟩) (Below.setCell (p := ⟨R, 0, none⟩) (Below.setCell (p := ⟨O, 1, none⟩) hb9 (by show B ≤ O; omega) _) (by show B ≤ R; omega) _) (by show B ≤ R; omega) _
end Go.Proofs.YtbpemackmadhgabDoor

/- The document's own count of expressions, as it counts them. -/
namespace Go.Proofs.YtbpemackmadhgabDoor
open Go.RowKit

mutual
def rE : Ex → Int → Int | .mk _ _ _ _ _ l, left => rL l left 0
def rL : List Ex → Int → Int → Int | [], _, n => n | x :: r, left, n => if n ≤ left then rL r left (n + (1 + rE x (left - n - 1))) else n
end
theorem rE_args (x : Ex) (left : Int) : rE x left = rL x.args left 0 := by cases x; simp [rE, Ex.args]
theorem rL_drop {l : List Ex} {j : Nat} {left n : Int} (h : j < l.length) : rL (l.drop j) left n = if n ≤ left then rL (l.drop (j + 1)) left (n + (1 + rE l[j] (left - n - 1))) else n := by
  rw [List.drop_eq_getElem_cons h, rL]
theorem r_bd (k : Nat) : (∀ (x : Ex) (left : Int), x.sz ≤ k → 0 ≤ rE x left ∧ rE x left ≤ max 0 (left + 1)) ∧ (∀ (l : List Ex) (left n : Int), szL l ≤ k → n ≤ rL l left n ∧ rL l left n ≤ max n (left + 1)) := by
  induction k with
  | zero =>
    refine ⟨fun x n hk => by have := x.sz_args; omega, fun l left n hk => ?_⟩
    cases l with
    | nil => simp only [rL]; omega
    | cons x r => rw [szL] at hk; have := x.sz_args; omega
  | succ k ih =>
    have h1 : ∀ (x : Ex) (left : Int), x.sz ≤ k + 1 → 0 ≤ rE x left ∧ rE x left ≤ max 0 (left + 1) := fun x n hk => by
      rw [rE_args]; exact ih.2 _ _ _ (by have := x.sz_args; omega)
    refine ⟨h1, fun l => ?_⟩
    induction l with
    | nil => intro left n _; simp only [rL]; omega
    | cons x r ihr =>
      intro left n hk
      rw [szL] at hk
      rw [rL]
      split
      · have := h1 x (left - n - 1) (by omega)
        have := ihr left (n + (1 + rE x (left - n - 1))) (by omega)
        omega
      · omega
theorem rE_bd (x : Ex) (left : Int) : 0 ≤ rE x left ∧ rE x left ≤ max 0 (left + 1) := (r_bd _).1 x left (Nat.le_refl _)
theorem rL_bd (l : List Ex) (left n : Int) : n ≤ rL l left n ∧ rL l left n ≤ max n (left + 1) := (r_bd _).2 l left n (Nat.le_refl _)

set_option maxRecDepth 100000 in
set_option maxHeartbeats 2000000 in
theorem rexprs_k (k : Nat) : ∀ (l : List Ex) (a : Option Addr) (c : Nat) (left : Int) (w : World), szL l ≤ k → HaveE w a c l → -8 ≤ left → left ≤ 4611686018427387904 →
    Calls Tryd.prog 47 #[.slice a l.length c, .int .i64 left] w fun e w' => e = .returned (.int .i64 (rL l left 0)) ∧ Below w.heap.size w w' := by
  induction k with
  | zero =>
    intro l a c left w hk hin h0 h1
    obtain rfl : l = [] := by
      cases l with
      | nil => rfl
      | cons x r => rw [szL] at hk; have := x.sz_args; omega
    rw [rL]
    show Calls Tryd.prog 47 #[.slice a 0 c, .int .i64 left] w _
    go_enter Tryd.func47, Tryd.ntmps47
    go_wp2_with fail
    go_loopw [5, 6] (fun t5 t6 wr => t5 = .int .i64 0 ∧ t6 = .int .i64 0 ∧ wr = w) (fun _ _ _ => 0)
    case atStart => exact ⟨rfl, rfl, rfl⟩
    case round =>
      obtain ⟨rfl, rfl, rfl⟩ := hrel
      go_wp2_with fail
      go_ret
      exact ⟨rfl, Below.refl _ _⟩
  | succ k ih =>
    intro l a c left w hk hin h0 h1
    have hl := hin.1
    have hc := hin.2.1
    have IH : Hid (∀ (l : List Ex) (a : Option Addr) (c : Nat) (left : Int) (w : World), szL l ≤ k → HaveE w a c l → -8 ≤ left → left ≤ 4611686018427387904 →
      Calls Tryd.prog 47 #[.slice a l.length c, .int .i64 left] w fun e w' => e = .returned (.int .i64 (rL l left 0)) ∧ Below w.heap.size w w') := ih
    have HE : Hid (HaveE w a c l) := hin
    have HK : Hid (szL l ≤ k + 1) := hk
    clear ih hin hk
    go_enter Tryd.func47, Tryd.ntmps47
    go_wp2_with fail
    go_loopw [5, 6] (fun t5 t6 wr => ∃ (j : Nat) (m : Int), j ≤ l.length ∧ t5 = .int .i64 m ∧ t6 = .int .i64 j ∧ 0 ≤ m ∧ m ≤ max 0 (left + 1) ∧ rL (l.drop j) left m = rL l left 0 ∧ Below w.heap.size w wr) (fun _ t6 _ => l.length - (intOf t6).toNat)
    case atStart => exact ⟨0, 0, Nat.zero_le _, rfl, rfl, by omega, by omega, by simp, Below.refl _ w⟩
    case round =>
      obtain ⟨j, m, hj, rfl, rfl, hm0, hm1, hcnt, hb⟩ := hrel
      have HC : Hid (rL (l.drop j) left m = rL l left 0) := hcnt
      clear hcnt
      have hws := hb.size
      by_cases hlt : j < l.length
      · have hli : (j : Int) < (l.length : Int) := by omega
        have HD : Hid (rL (l.drop j) left m = if m ≤ left then rL (l.drop (j + 1)) left (m + (1 + rE l[j] (left - m - 1))) else m) := rL_drop hlt
        by_cases hm : m ≤ left
        · obtain ⟨b, o, rfl, c0, c1, c2, c3⟩ := row_at (HE.out.2.2.1.below hb) hlt
          have HI : Hid (l[j].In wr) := (HE.out.2.2.2 _ (List.getElem_mem hlt)).stay hb
          have HZ : Hid (szL l[j].args ≤ k) := by
            have h1 := szL_mem (List.getElem_mem hlt)
            have h2 := (l[j]).sz_args
            have h3 := HK.out
            show szL l[j].args ≤ k
            omega
          have hbd := rE_bd l[j] (left - m - 1)
          rw [if_pos hm] at HD
          generalize l[j] = x at *
          go_wp2_with fail
          refine (IH.out x.args x.a x.cap (left - m - 1) _ HZ.out HI.out.have (by omega) (by omega)).mono ?_
          rintro e w' ⟨rfl, hb'⟩
          rw [← rE_args]
          generalize rE x (left - m - 1) = q at *
          go_wp2_with fail
          go_roundw
          case rel =>
            refine ⟨j + 1, m + (1 + q), by omega, rfl, by go_num, by omega, by omega, ?_, hb.trans (hb'.mono hws)⟩
            rw [← HC.out, HD.out]
          case measure => simp [intOf]; omega
        · rw [if_neg hm] at HD
          go_wp2_with fail
          go_ret
          exact ⟨ret_int (by rw [← HC.out, HD.out]), hb⟩
      · obtain rfl : j = l.length := by omega
        go_wp2_with fail
        go_ret
        exact ⟨ret_int (by rw [← HC.out, List.drop_eq_nil_of_le (Nat.le_refl _), rL]), hb⟩
theorem rexprs_any (l : List Ex) (a : Option Addr) (c : Nat) (left : Int) (w : World) (hin : HaveE w a c l) (h0 : -8 ≤ left) (h1 : left ≤ 4611686018427387904) :
    Calls Tryd.prog 47 #[.slice a l.length c, .int .i64 left] w fun e w' => e = .returned (.int .i64 (rL l left 0)) ∧ Below w.heap.size w w' := rexprs_k _ l a c left w (Nat.le_refl _) hin h0 h1
end Go.Proofs.YtbpemackmadhgabDoor

/- The document's own count of statements, as it counts them; is an expression one of zeros? -/
namespace Go.Proofs.YtbpemackmadhgabDoor
open Go.RowKit

def rZ (x : Ex) (left n : Int) : Int := if zeroE x then n else n + (1 + rL x.args (left - n - 1) 0)
mutual
def rS : St → Int → Int → Int
  | .mk _ _ _ a b _ _ l _ _ e _ _ c, left, n =>
    (fun m => m + rSs e (left - m) 0) (rCs c left ((fun m => m + rSs l (left - m) 0) (rZ b left (rZ a left (n + 1)))))
def rSs : List St → Int → Int → Int | [], _, n => n | s :: r, left, n => if n ≤ left then rSs r left (rS s left n) else n
def rC : Ca → Int → Int | .mk _ _ _ l, left => rSs l left 0
def rCs : List Ca → Int → Int → Int | [], _, n => n | c :: r, left, n => if n ≤ left then rCs r left (n + (1 + rC c (left - n - 1))) else n
end
def rB (l : List St) (left n : Int) : Int := n + rSs l (left - n) 0
theorem rC_eq (c : Ca) (left : Int) : rC c left = rSs c.body left 0 := by cases c; simp [rC, Ca.body]
theorem rS_eq (s : St) (left n : Int) : rS s left n = rB s.els left (rCs s.cases left (rB s.body left (rZ s.b left (rZ s.a left (n + 1))))) := by
  cases s; simp only [rS, rB, St.els, St.cases, St.body, St.a, St.b]
theorem rSs_drop {l : List St} {j : Nat} {left n : Int} (h : j < l.length) : rSs (l.drop j) left n = if n ≤ left then rSs (l.drop (j + 1)) left (rS l[j] left n) else n := by
  rw [List.drop_eq_getElem_cons h, rSs]
theorem rCs_drop {l : List Ca} {j : Nat} {left n : Int} (h : j < l.length) : rCs (l.drop j) left n = if n ≤ left then rCs (l.drop (j + 1)) left (n + (1 + rC l[j] (left - n - 1))) else n := by
  rw [List.drop_eq_getElem_cons h, rCs]
theorem rZ_bd (x : Ex) (left n : Int) : n ≤ rZ x left n ∧ rZ x left n ≤ max (n + 1) (left + 1) := by
  unfold rZ
  have := rL_bd x.args (left - n - 1) 0
  split <;> omega

theorem rs_bd (k : Nat) : (∀ (s : St) (left n : Int), s.sz ≤ k → n ≤ left → n + 1 ≤ rS s left n ∧ rS s left n ≤ left + 3) ∧ (∀ (l : List St) (left n : Int), ssz l ≤ k → n ≤ rSs l left n ∧ rSs l left n ≤ max n (left + 3)) := by
  induction k with
  | zero =>
    refine ⟨fun s left n hk => by have := s.sz_eq; omega, fun l left n hk => ?_⟩
    cases l with
    | nil => simp only [rSs]; omega
    | cons x r => rw [ssz] at hk; have := x.sz_eq; omega
  | succ k ih =>
    have hC : ∀ (l : List Ca) (left n : Int), csz l ≤ k → n ≤ rCs l left n ∧ rCs l left n ≤ max n (left + 3) := fun l => by
      induction l with
      | nil => intro left n _; simp only [rCs]; omega
      | cons c r ihr =>
        intro left n hk
        rw [csz] at hk
        rw [rCs]
        split
        · have h1 := ih.2 c.body (left - n - 1) 0 (by have := c.sz_eq; omega)
          rw [← rC_eq] at h1
          have := ihr left (n + (1 + rC c (left - n - 1))) (by omega)
          omega
        · omega
    have hB : ∀ (l : List St) (left n : Int), ssz l ≤ k → n ≤ rB l left n ∧ rB l left n ≤ max n (left + 3) := fun l left n hk => by
      have := ih.2 l (left - n) 0 hk
      unfold rB; omega
    have h1 : ∀ (s : St) (left n : Int), s.sz ≤ k + 1 → n ≤ left → n + 1 ≤ rS s left n ∧ rS s left n ≤ left + 3 := fun s left n hk hn => by
      rw [rS_eq]
      have hz := s.sz_eq
      have a1 := rZ_bd s.a left (n + 1)
      have a2 := rZ_bd s.b left (rZ s.a left (n + 1))
      have a3 := hB s.body left (rZ s.b left (rZ s.a left (n + 1))) (by omega)
      have a4 := hC s.cases left (rB s.body left (rZ s.b left (rZ s.a left (n + 1)))) (by omega)
      have a5 := hB s.els left (rCs s.cases left (rB s.body left (rZ s.b left (rZ s.a left (n + 1))))) (by omega)
      omega
    refine ⟨h1, fun l => ?_⟩
    induction l with
    | nil => intro left n _; simp only [rSs]; omega
    | cons x r ihr =>
      intro left n hk
      rw [ssz] at hk
      rw [rSs]
      split
      · have := h1 x left n (by omega) (by assumption)
        have := ihr left (rS x left n) (by omega)
        omega
      · omega
theorem rSs_bd (l : List St) (left n : Int) : n ≤ rSs l left n ∧ rSs l left n ≤ max n (left + 3) := (rs_bd _).2 l left n (Nat.le_refl _)
theorem rS_bd (s : St) (left n : Int) (h : n ≤ left) : n + 1 ≤ rS s left n ∧ rS s left n ≤ left + 3 := (rs_bd _).1 s left n (Nat.le_refl _) h
theorem rC_bd (c : Ca) (left : Int) : 0 ≤ rC c left ∧ rC c left ≤ max 0 (left + 3) := by rw [rC_eq]; exact rSs_bd _ _ _
theorem rB_bd (l : List St) (left n : Int) : n ≤ rB l left n ∧ rB l left n ≤ max n (left + 3) := by
  have := rSs_bd l (left - n) 0
  unfold rB; omega

set_option maxRecDepth 100000 in
set_option maxHeartbeats 2000000 in
theorem rzero_any (x : Ex) (w : World) : Calls Tryd.prog 46 #[x.val] w fun e w' => e = .returned (.bool (zeroE x)) ∧ Below w.heap.size w w' := by
  obtain ⟨kd, n, s, a, c, l⟩ := x
  unfold Ex.val zeroE
  simp only [Ex.kind, Ex.n, Ex.name, Ex.a, Ex.cap, Ex.args]
  have hb := (Below.refl _ w).alloc (Nat.le_refl _) (.cells #[.int .i64 kd, .int .i64 n, .string s, .slice a l.length c] 48)
  cases h1 : (kd == 0)
  · go_enter Tryd.func46, Tryd.ntmps46
    go_wp2_with fail
    go_ret
    exact ⟨rfl, hb⟩
  · cases h2 : (n == 0)
    · go_enter Tryd.func46, Tryd.ntmps46
      go_wp2_with fail
      go_ret
      exact ⟨ret_bool (by simp), hb⟩
    · have e : s.toList.isEmpty = (s.toList == []) := by cases s.toList <;> rfl
      cases h3 : (s.toList == [])
      · go_enter Tryd.func46, Tryd.ntmps46
        go_wp2_with fail
        go_ret
        exact ⟨ret_bool (by rw [e, h3]; rfl), hb⟩
      · go_enter Tryd.func46, Tryd.ntmps46
        go_wp2_with fail
        go_ret
        refine ⟨ret_bool ?_, hb⟩
        rw [e, h3]
        cases l
        · rfl
        · simp; omega
theorem rZ_t {x : Ex} {left n : Int} (h : zeroE x = true) : rZ x left n = n := by simp [rZ, h]
theorem rZ_f {x : Ex} {left n : Int} (h : zeroE x = false) : rZ x left n = n + (1 + rL x.args (left - n - 1) 0) := by simp [rZ, h]
end Go.Proofs.YtbpemackmadhgabDoor

/- The document's own count of statements: what it answers. -/
namespace Go.Proofs.YtbpemackmadhgabDoor
open Go.RowKit

set_option maxRecDepth 100000 in
set_option maxHeartbeats 16000000 in
theorem rstmts_k (k : Nat) : ∀ (l : List St) (a : Option Addr) (c : Nat) (left : Int) (w : World), ssz l ≤ k → Have w a c l → -8 ≤ left → left ≤ 4611686018427387904 →
    Calls Tryd.prog 27 #[.slice a l.length c, .int .i64 left] w fun e w' => e = .returned (.int .i64 (rSs l left 0)) ∧ Below w.heap.size w w' := by
  induction k with
  | zero =>
    intro l a c left w hk hin h0 h1
    obtain rfl : l = [] := by
      cases l with
      | nil => rfl
      | cons x r => rw [ssz] at hk; have := x.sz_eq; omega
    rw [rSs]
    show Calls Tryd.prog 27 #[.slice a 0 c, .int .i64 left] w _
    go_enter Tryd.func27, Tryd.ntmps27
    go_wp2_with fail
    go_loopw [5, 6] (fun t5 t6 wr => t5 = .int .i64 0 ∧ t6 = .int .i64 0 ∧ wr = w) (fun _ _ _ => 0)
    case atStart => exact ⟨rfl, rfl, rfl⟩
    case round =>
      obtain ⟨rfl, rfl, rfl⟩ := hrel
      go_wp2_with fail
      go_ret
      exact ⟨rfl, Below.refl _ _⟩
  | succ k ih =>
    intro l a c left w hk hin h0 h1
    obtain ⟨⟨hl, hc, _, hrow⟩, hsub⟩ := hin
    have IH : Hid (∀ (l : List St) (a : Option Addr) (c : Nat) (left : Int) (w : World), ssz l ≤ k → Have w a c l → -8 ≤ left → left ≤ 4611686018427387904 → Calls Tryd.prog 27 #[.slice a l.length c, .int .i64 left] w fun e w' => e = .returned (.int .i64 (rSs l left 0)) ∧ Below w.heap.size w w') := ih
    have HS : Hid (∀ x ∈ l, x.In w) := hsub
    have HR : Hid (RowIn w a 14 (List.map St.cells l)) := hrow
    have HK : Hid (ssz l ≤ k + 1) := hk
    clear ih hsub hrow hk
    go_enter Tryd.func27, Tryd.ntmps27
    go_wp2_with fail
    go_loopw [5, 6] (fun t5 t6 wr => ∃ (j : Nat) (m : Int), j ≤ l.length ∧ t5 = .int .i64 m ∧ t6 = .int .i64 j ∧ 0 ≤ m ∧ m ≤ max 0 (left + 3) ∧ rSs (l.drop j) left m = rSs l left 0 ∧ Below w.heap.size w wr) (fun _ t6 _ => l.length - (intOf t6).toNat)
    case atStart => exact ⟨0, 0, Nat.zero_le _, rfl, rfl, by omega, by omega, by simp, Below.refl _ w⟩
    case round =>
      obtain ⟨j, m, hj, rfl, rfl, hm0, hm1, hcnt, hb⟩ := hrel
      have HC : Hid (rSs (l.drop j) left m = rSs l left 0) := hcnt
      clear hcnt
      have hws := hb.size
      by_cases hlt : j < l.length
      · have hli : (j : Int) < (l.length : Int) := by omega
        have HD : Hid (rSs (l.drop j) left m = if m ≤ left then rSs (l.drop (j + 1)) left (rS l[j] left m) else m) := rSs_drop hlt
        by_cases hm : m ≤ left
        · obtain ⟨b, o, rfl, hcell⟩ := rowS_at (HR.out.below hb) hlt
          have c0 := hcell 0 _ rfl
          have c1 := hcell 1 _ rfl
          have c2 := hcell 2 _ rfl
          have c3 := hcell 3 _ rfl
          have c4 := hcell 4 _ rfl
          have c5 := hcell 5 _ rfl
          have c6 := hcell 6 _ rfl
          have c7 := hcell 7 _ rfl
          have c8 := hcell 8 _ rfl
          have c9 := hcell 9 _ rfl
          have c10 := hcell 10 _ rfl
          have c11 := hcell 11 _ rfl
          have c12 := hcell 12 _ rfl
          have c13 := hcell 13 _ rfl
          simp only [← Nat.add_assoc, Nat.add_zero] at c0 c1 c2 c3 c4 c5 c6 c7 c8 c9 c10 c11 c12 c13
          clear hcell
          have HI : Hid (l[j].In wr) := (HS.out _ (List.getElem_mem hlt)).stay hb
          have HZ : Hid (l[j].sz ≤ k + 1) := by
            have h1 := ssz_mem (List.getElem_mem hlt)
            have h3 := HK.out
            show l[j].sz ≤ k + 1
            omega
          rw [if_pos hm] at HD
          generalize l[j] = s at *
          have HZA : Hid (∀ w, Calls Tryd.prog 46 #[s.a.val] w fun e w' => e = .returned (.bool (zeroE s.a)) ∧ Below w.heap.size w w') := fun w => rzero_any s.a w
          have HZB : Hid (∀ w, Calls Tryd.prog 46 #[s.b.val] w fun e w' => e = .returned (.bool (zeroE s.b)) ∧ Below w.heap.size w w') := fun w => rzero_any s.b w
          unfold Ex.val at HZA HZB
          cases hza : zeroE s.a
          · cases hzb : zeroE s.b
            · have EQ : Hid (rS s left m = rB s.els left (rCs s.cases left (((m + 1) + (1 + rL s.a.args (left - (m + 1) - 1) 0)) + (1 + rL s.b.args (left - ((m + 1) + (1 + rL s.a.args (left - (m + 1) - 1) 0)) - 1) 0) + rSs s.body (left - (((m + 1) + (1 + rL s.a.args (left - (m + 1) - 1) 0)) + (1 + rL s.b.args (left - ((m + 1) + (1 + rL s.a.args (left - (m + 1) - 1) 0)) - 1) 0))) 0))) := by
                show _ = _; rw [rS_eq, rZ_f hza, rZ_f hzb]; rfl
              rw [hza] at HZA
              rw [hzb] at HZB
              go_wp2_with fail
              obtain ⟨W1, hW1⟩ : ∃ W1, wr.alloc (.cells #[.int .i64 s.kind, .string s.name, .int .i64 s.n, .int .i64 s.a.kind, .int .i64 s.a.n, .string s.a.name, .slice s.a.a s.a.args.length s.a.cap, .int .i64 s.b.kind, .int .i64 s.b.n, .string s.b.name, .slice s.b.a s.b.args.length s.b.cap, .slice s.ba s.body.length s.bc, .slice s.ea s.els.length s.ec, .slice s.ca s.cases.length s.cc] 53) = W1 := ⟨_, rfl⟩
              have BX : Hid (∀ (j : Nat) v, s.cells[j]? = some v → W1.cell? ⟨wr.heap.size, j, none⟩ = some v) := by
                show ∀ (j : Nat) v, _; intro j v h
                rw [← hW1, World.cell?_alloc_at _ _ _ _ rfl]; simpa [St.cells] using h
              have hb1 : Below w.heap.size w W1 := by rw [← hW1]; exact hb.alloc hws _
              have hbr : Below wr.heap.size wr W1 := by rw [← hW1]; exact (Below.refl _ wr).alloc (Nat.le_refl _) _
              have hs1 : wr.heap.size < W1.heap.size := by rw [← hW1]; simp
              rw [hW1]
              clear hW1 c0 c1 c2 c3 c4 c5 c6 c7 c8 c9 c10 c11 c12 c13
              have HI1 : Hid (s.In W1) := HI.out.stay hbr
              obtain ⟨Z, hZ⟩ : ∃ Z, wr.heap.size = Z := ⟨_, rfl⟩
              rw [hZ] at BX hs1 ⊢
              have CX : Hid (∀ w', Below W1.heap.size W1 w' → ∀ (j : Nat) v, s.cells[j]? = some v → w'.cell? ⟨Z, j, none⟩ = some v) := fun w' h j v e => (h.cell (p := ⟨Z, j, none⟩) hs1).trans (BX.out j v e)
              clear hbr hZ hb hws
              refine (HZA.out W1).mono ?_
              rintro e w2 ⟨rfl, hb2⟩
              have c6 := CX.out _ hb2 6 _ rfl
              go_wp2_with fail
              refine (rexprs_any s.a.args s.a.a s.a.cap (left - (m + 1) - 1) _ ((St.in_iff.1 (HI1.out.stay hb2)).2.2.2.1.have) (by omega) (by omega)).mono ?_
              have b1 := rL_bd s.a.args (left - (m + 1) - 1) 0
              generalize rL s.a.args (left - (m + 1) - 1) 0 = q1 at b1 EQ ⊢
              rintro e w3 ⟨rfl, hb3⟩
              have hb3' := hb2.trans (hb3.mono hb2.size)
              clear hb2 hb3 c6
              have c7 := CX.out _ hb3' 7 _ rfl
              have c8 := CX.out _ hb3' 8 _ rfl
              have c9 := CX.out _ hb3' 9 _ rfl
              have c10 := CX.out _ hb3' 10 _ rfl
              go_wp2_with fail
              refine (HZB.out _).mono ?_
              rintro e w4 ⟨rfl, hb4⟩
              have hb4' := hb3'.trans (hb4.mono hb3'.size)
              clear hb3' hb4 c7 c8 c9 c10
              have c10 := CX.out _ hb4' 10 _ rfl
              go_wp2_with fail
              refine (rexprs_any s.b.args s.b.a s.b.cap (left - ((m + 1) + (1 + q1)) - 1) _ ((St.in_iff.1 (HI1.out.stay hb4')).2.2.2.2.1.have) (by omega) (by omega)).mono ?_
              have b2 := rL_bd s.b.args (left - ((m + 1) + (1 + q1)) - 1) 0
              generalize rL s.b.args (left - ((m + 1) + (1 + q1)) - 1) 0 = q2 at b2 EQ ⊢
              rintro e w5 ⟨rfl, hb5⟩
              have hb5' := hb4'.trans (hb5.mono hb4'.size)
              clear hb4' hb5 c10
              have c11 := CX.out _ hb5' 11 _ rfl
              go_wp2_with fail
              refine (IH.out s.body s.ba s.bc (left - (((m + 1) + (1 + q1)) + (1 + q2))) _ (by have := s.sz_eq; have := HZ.out; omega) (St.in_iff.1 (HI1.out.stay hb5')).2.2.2.2.2.1 (by omega) (by omega)).mono ?_
              have b3 := rSs_bd s.body (left - (((m + 1) + (1 + q1)) + (1 + q2))) 0
              generalize rSs s.body (left - (((m + 1) + (1 + q1)) + (1 + q2))) 0 = q3 at b3 EQ ⊢
              rintro e w6 ⟨rfl, hb6⟩
              have hb6' := hb5'.trans (hb6.mono hb5'.size)
              clear hb5' hb6 c11
              obtain ⟨n4, hn4⟩ : ∃ n4, ((m + 1) + (1 + q1)) + (1 + q2) + q3 = n4 := ⟨_, rfl⟩
              have hn4b : 0 ≤ n4 ∧ n4 ≤ left + 3 := by omega
              rw [hn4] at EQ
              have HN4 := show Hid _ from hn4
              clear hn4
              go_wp2_with fail
              go_loopw [5, 8] (fun t5 t8 wq => ∃ (i : Nat) (p : Int), i ≤ s.cases.length ∧ t5 = .int .i64 p ∧ t8 = .int .i64 i ∧ 0 ≤ p ∧ p ≤ left + 3 ∧ rCs (s.cases.drop i) left p = rCs s.cases left n4 ∧ Below W1.heap.size W1 wq) (fun _ t8 _ => s.cases.length - (intOf t8).toNat)
              case atStart => exact ⟨0, n4, Nat.zero_le _, by have := HN4.out; go_num, rfl, hn4b.1, hn4b.2, by simp, hb6'⟩
              case round =>
                obtain ⟨i, p, hi, rfl, rfl, hp0, hp1, hpc, hbq⟩ := hrel
                have HPC : Hid (rCs (s.cases.drop i) left p = rCs s.cases left n4) := hpc
                clear hpc
                obtain ⟨hcl, hcc, _, hcr⟩ := (St.in_iff.1 (HI1.out.stay hbq)).2.2.2.2.2.2.2.1
                have HCR : Hid (RowIn wr s.ca 2 (s.cases.map Ca.cells)) := hcr
                clear hcr
                have c13 := CX.out _ hbq 13 _ rfl
                by_cases hilt : i < s.cases.length
                · have hili : (i : Int) < (s.cases.length : Int) := by omega
                  have HD2 : Hid (rCs (s.cases.drop i) left p = if p ≤ left then rCs (s.cases.drop (i + 1)) left (p + (1 + rC s.cases[i] (left - p - 1))) else p) := rCs_drop hilt
                  by_cases hpl : p ≤ left
                  · obtain ⟨b', o', hca, d0, d1⟩ := rowC_at HCR.out hilt
                    rw [hca] at c13
                    clear hca
                    rw [if_pos hpl, rC_eq] at HD2
                    have HIc : Hid (Have wr s.cases[i].ba s.cases[i].bc s.cases[i].body) := (Ca.in_iff.1 ((St.in_iff.1 (HI1.out.stay hbq)).2.2.2.2.2.2.2.2 _ (List.getElem_mem hilt))).2
                    have HZc : Hid (ssz s.cases[i].body ≤ k) := by
                      have h1 := csz_mem (List.getElem_mem hilt)
                      have h2 := (s.cases[i]).sz_eq
                      have h3 := s.sz_eq
                      have h4 := HZ.out
                      show ssz s.cases[i].body ≤ k
                      omega
                    generalize s.cases[i] = y at *
                    go_wp2_with fail
                    refine (IH.out y.body y.ba y.bc (left - p - 1) _ HZc.out HIc.out (by omega) (by omega)).mono ?_
                    have b4 := rSs_bd y.body (left - p - 1) 0
                    generalize rSs y.body (left - p - 1) 0 = q4 at b4 HD2 ⊢
                    rintro e w7 ⟨rfl, hb7⟩
                    have hb7' := hbq.trans (hb7.mono hbq.size)
                    clear hb7 c13 d0 d1
                    go_wp2_with fail
                    go_roundw
                    case rel =>
                      refine ⟨i + 1, p + (1 + q4), by omega, by go_num, by go_num, by omega, by omega, ?_, hb7'⟩
                      rw [← HPC.out, HD2.out]
                    case measure => simp [intOf]; omega
                  · rw [if_neg hpl] at HD2
                    have hpe : rCs s.cases left n4 = p := by rw [← HPC.out, HD2.out]
                    have c12 := CX.out _ hbq 12 _ rfl
                    go_wp2_with fail
                    refine (IH.out s.els s.ea s.ec (left - p) _ (by have := s.sz_eq; have := HZ.out; omega) (St.in_iff.1 (HI1.out.stay hbq)).2.2.2.2.2.2.1 (by omega) (by omega)).mono ?_
                    have b5 := rSs_bd s.els (left - p) 0
                    have EQ2 : Hid (rS s left m = p + rSs s.els (left - p) 0) := by show _ = _; rw [EQ.out, hpe]; rfl
                    generalize rSs s.els (left - p) 0 = q5 at b5 EQ2 ⊢
                    rintro e w8 ⟨rfl, hb8⟩
                    have hb8' := hb1.trans ((hbq.trans (hb8.mono hbq.size)).mono hb1.size)
                    clear hb8 c12 c13 hpe
                    go_wp2_with fail
                    go_roundw
                    case rel =>
                      refine ⟨j + 1, p + q5, by omega, by go_num, by go_num, by omega, by omega, ?_, hb8'⟩
                      rw [← HC.out, HD.out, EQ2.out]
                    case measure => simp [intOf]; omega
                · obtain rfl : i = s.cases.length := by omega
                  have hpe : rCs s.cases left n4 = p := by rw [← HPC.out, List.drop_eq_nil_of_le (Nat.le_refl _), rCs]
                  have c12 := CX.out _ hbq 12 _ rfl
                  go_wp2_with fail
                  refine (IH.out s.els s.ea s.ec (left - p) _ (by have := s.sz_eq; have := HZ.out; omega) (St.in_iff.1 (HI1.out.stay hbq)).2.2.2.2.2.2.1 (by omega) (by omega)).mono ?_
                  have b5 := rSs_bd s.els (left - p) 0
                  have EQ2 : Hid (rS s left m = p + rSs s.els (left - p) 0) := by show _ = _; rw [EQ.out, hpe]; rfl
                  generalize rSs s.els (left - p) 0 = q5 at b5 EQ2 ⊢
                  rintro e w8 ⟨rfl, hb8⟩
                  have hb8' := hb1.trans ((hbq.trans (hb8.mono hbq.size)).mono hb1.size)
                  clear hb8 c12 c13 hpe
                  go_wp2_with fail
                  go_roundw
                  case rel =>
                    refine ⟨j + 1, p + q5, by omega, by go_num, by go_num, by omega, by omega, ?_, hb8'⟩
                    rw [← HC.out, HD.out, EQ2.out]
                  case measure => simp [intOf]; omega
            · have EQ : Hid (rS s left m = rB s.els left (rCs s.cases left ((m + 1) + (1 + rL s.a.args (left - (m + 1) - 1) 0) + rSs s.body (left - ((m + 1) + (1 + rL s.a.args (left - (m + 1) - 1) 0))) 0))) := by
                show _ = _; rw [rS_eq, rZ_f hza, rZ_t hzb]; rfl
              rw [hza] at HZA
              rw [hzb] at HZB
              go_wp2_with fail
              obtain ⟨W1, hW1⟩ : ∃ W1, wr.alloc (.cells #[.int .i64 s.kind, .string s.name, .int .i64 s.n, .int .i64 s.a.kind, .int .i64 s.a.n, .string s.a.name, .slice s.a.a s.a.args.length s.a.cap, .int .i64 s.b.kind, .int .i64 s.b.n, .string s.b.name, .slice s.b.a s.b.args.length s.b.cap, .slice s.ba s.body.length s.bc, .slice s.ea s.els.length s.ec, .slice s.ca s.cases.length s.cc] 53) = W1 := ⟨_, rfl⟩
              have BX : Hid (∀ (j : Nat) v, s.cells[j]? = some v → W1.cell? ⟨wr.heap.size, j, none⟩ = some v) := by
                show ∀ (j : Nat) v, _; intro j v h
                rw [← hW1, World.cell?_alloc_at _ _ _ _ rfl]; simpa [St.cells] using h
              have hb1 : Below w.heap.size w W1 := by rw [← hW1]; exact hb.alloc hws _
              have hbr : Below wr.heap.size wr W1 := by rw [← hW1]; exact (Below.refl _ wr).alloc (Nat.le_refl _) _
              have hs1 : wr.heap.size < W1.heap.size := by rw [← hW1]; simp
              rw [hW1]
              clear hW1 c0 c1 c2 c3 c4 c5 c6 c7 c8 c9 c10 c11 c12 c13
              have HI1 : Hid (s.In W1) := HI.out.stay hbr
              obtain ⟨Z, hZ⟩ : ∃ Z, wr.heap.size = Z := ⟨_, rfl⟩
              rw [hZ] at BX hs1 ⊢
              have CX : Hid (∀ w', Below W1.heap.size W1 w' → ∀ (j : Nat) v, s.cells[j]? = some v → w'.cell? ⟨Z, j, none⟩ = some v) := fun w' h j v e => (h.cell (p := ⟨Z, j, none⟩) hs1).trans (BX.out j v e)
              clear hbr hZ hb hws
              refine (HZA.out W1).mono ?_
              rintro e w2 ⟨rfl, hb2⟩
              have c6 := CX.out _ hb2 6 _ rfl
              go_wp2_with fail
              refine (rexprs_any s.a.args s.a.a s.a.cap (left - (m + 1) - 1) _ ((St.in_iff.1 (HI1.out.stay hb2)).2.2.2.1.have) (by omega) (by omega)).mono ?_
              have b1 := rL_bd s.a.args (left - (m + 1) - 1) 0
              generalize rL s.a.args (left - (m + 1) - 1) 0 = q1 at b1 EQ ⊢
              rintro e w3 ⟨rfl, hb3⟩
              have hb3' := hb2.trans (hb3.mono hb2.size)
              clear hb2 hb3 c6
              have c7 := CX.out _ hb3' 7 _ rfl
              have c8 := CX.out _ hb3' 8 _ rfl
              have c9 := CX.out _ hb3' 9 _ rfl
              have c10 := CX.out _ hb3' 10 _ rfl
              go_wp2_with fail
              refine (HZB.out _).mono ?_
              rintro e w4 ⟨rfl, hb4⟩
              have hb4' := hb3'.trans (hb4.mono hb3'.size)
              clear hb3' hb4 c7 c8 c9 c10
              have c11 := CX.out _ hb4' 11 _ rfl
              go_wp2_with fail
              refine (IH.out s.body s.ba s.bc (left - ((m + 1) + (1 + q1))) _ (by have := s.sz_eq; have := HZ.out; omega) (St.in_iff.1 (HI1.out.stay hb4')).2.2.2.2.2.1 (by omega) (by omega)).mono ?_
              have b3 := rSs_bd s.body (left - ((m + 1) + (1 + q1))) 0
              generalize rSs s.body (left - ((m + 1) + (1 + q1))) 0 = q3 at b3 EQ ⊢
              rintro e w6 ⟨rfl, hb6⟩
              have hb6' := hb4'.trans (hb6.mono hb4'.size)
              clear hb4' hb6 c11
              obtain ⟨n4, hn4⟩ : ∃ n4, (m + 1) + (1 + q1) + q3 = n4 := ⟨_, rfl⟩
              have hn4b : 0 ≤ n4 ∧ n4 ≤ left + 3 := by omega
              rw [hn4] at EQ
              have HN4 := show Hid _ from hn4
              clear hn4
              go_wp2_with fail
              go_loopw [5, 8] (fun t5 t8 wq => ∃ (i : Nat) (p : Int), i ≤ s.cases.length ∧ t5 = .int .i64 p ∧ t8 = .int .i64 i ∧ 0 ≤ p ∧ p ≤ left + 3 ∧ rCs (s.cases.drop i) left p = rCs s.cases left n4 ∧ Below W1.heap.size W1 wq) (fun _ t8 _ => s.cases.length - (intOf t8).toNat)
              case atStart => exact ⟨0, n4, Nat.zero_le _, by have := HN4.out; go_num, rfl, hn4b.1, hn4b.2, by simp, hb6'⟩
              case round =>
                obtain ⟨i, p, hi, rfl, rfl, hp0, hp1, hpc, hbq⟩ := hrel
                have HPC : Hid (rCs (s.cases.drop i) left p = rCs s.cases left n4) := hpc
                clear hpc
                obtain ⟨hcl, hcc, _, hcr⟩ := (St.in_iff.1 (HI1.out.stay hbq)).2.2.2.2.2.2.2.1
                have HCR : Hid (RowIn wr s.ca 2 (s.cases.map Ca.cells)) := hcr
                clear hcr
                have c13 := CX.out _ hbq 13 _ rfl
                by_cases hilt : i < s.cases.length
                · have hili : (i : Int) < (s.cases.length : Int) := by omega
                  have HD2 : Hid (rCs (s.cases.drop i) left p = if p ≤ left then rCs (s.cases.drop (i + 1)) left (p + (1 + rC s.cases[i] (left - p - 1))) else p) := rCs_drop hilt
                  by_cases hpl : p ≤ left
                  · obtain ⟨b', o', hca, d0, d1⟩ := rowC_at HCR.out hilt
                    rw [hca] at c13
                    clear hca
                    rw [if_pos hpl, rC_eq] at HD2
                    have HIc : Hid (Have wr s.cases[i].ba s.cases[i].bc s.cases[i].body) := (Ca.in_iff.1 ((St.in_iff.1 (HI1.out.stay hbq)).2.2.2.2.2.2.2.2 _ (List.getElem_mem hilt))).2
                    have HZc : Hid (ssz s.cases[i].body ≤ k) := by
                      have h1 := csz_mem (List.getElem_mem hilt)
                      have h2 := (s.cases[i]).sz_eq
                      have h3 := s.sz_eq
                      have h4 := HZ.out
                      show ssz s.cases[i].body ≤ k
                      omega
                    generalize s.cases[i] = y at *
                    go_wp2_with fail
                    refine (IH.out y.body y.ba y.bc (left - p - 1) _ HZc.out HIc.out (by omega) (by omega)).mono ?_
                    have b4 := rSs_bd y.body (left - p - 1) 0
                    generalize rSs y.body (left - p - 1) 0 = q4 at b4 HD2 ⊢
                    rintro e w7 ⟨rfl, hb7⟩
                    have hb7' := hbq.trans (hb7.mono hbq.size)
                    clear hb7 c13 d0 d1
                    go_wp2_with fail
                    go_roundw
                    case rel =>
                      refine ⟨i + 1, p + (1 + q4), by omega, by go_num, by go_num, by omega, by omega, ?_, hb7'⟩
                      rw [← HPC.out, HD2.out]
                    case measure => simp [intOf]; omega
                  · rw [if_neg hpl] at HD2
                    have hpe : rCs s.cases left n4 = p := by rw [← HPC.out, HD2.out]
                    have c12 := CX.out _ hbq 12 _ rfl
                    go_wp2_with fail
                    refine (IH.out s.els s.ea s.ec (left - p) _ (by have := s.sz_eq; have := HZ.out; omega) (St.in_iff.1 (HI1.out.stay hbq)).2.2.2.2.2.2.1 (by omega) (by omega)).mono ?_
                    have b5 := rSs_bd s.els (left - p) 0
                    have EQ2 : Hid (rS s left m = p + rSs s.els (left - p) 0) := by show _ = _; rw [EQ.out, hpe]; rfl
                    generalize rSs s.els (left - p) 0 = q5 at b5 EQ2 ⊢
                    rintro e w8 ⟨rfl, hb8⟩
                    have hb8' := hb1.trans ((hbq.trans (hb8.mono hbq.size)).mono hb1.size)
                    clear hb8 c12 c13 hpe
                    go_wp2_with fail
                    go_roundw
                    case rel =>
                      refine ⟨j + 1, p + q5, by omega, by go_num, by go_num, by omega, by omega, ?_, hb8'⟩
                      rw [← HC.out, HD.out, EQ2.out]
                    case measure => simp [intOf]; omega
                · obtain rfl : i = s.cases.length := by omega
                  have hpe : rCs s.cases left n4 = p := by rw [← HPC.out, List.drop_eq_nil_of_le (Nat.le_refl _), rCs]
                  have c12 := CX.out _ hbq 12 _ rfl
                  go_wp2_with fail
                  refine (IH.out s.els s.ea s.ec (left - p) _ (by have := s.sz_eq; have := HZ.out; omega) (St.in_iff.1 (HI1.out.stay hbq)).2.2.2.2.2.2.1 (by omega) (by omega)).mono ?_
                  have b5 := rSs_bd s.els (left - p) 0
                  have EQ2 : Hid (rS s left m = p + rSs s.els (left - p) 0) := by show _ = _; rw [EQ.out, hpe]; rfl
                  generalize rSs s.els (left - p) 0 = q5 at b5 EQ2 ⊢
                  rintro e w8 ⟨rfl, hb8⟩
                  have hb8' := hb1.trans ((hbq.trans (hb8.mono hbq.size)).mono hb1.size)
                  clear hb8 c12 c13 hpe
                  go_wp2_with fail
                  go_roundw
                  case rel =>
                    refine ⟨j + 1, p + q5, by omega, by go_num, by go_num, by omega, by omega, ?_, hb8'⟩
                    rw [← HC.out, HD.out, EQ2.out]
                  case measure => simp [intOf]; omega
          · cases hzb : zeroE s.b
            · have EQ : Hid (rS s left m = rB s.els left (rCs s.cases left ((m + 1) + (1 + rL s.b.args (left - (m + 1) - 1) 0) + rSs s.body (left - ((m + 1) + (1 + rL s.b.args (left - (m + 1) - 1) 0))) 0))) := by
                show _ = _; rw [rS_eq, rZ_t hza, rZ_f hzb]; rfl
              rw [hza] at HZA
              rw [hzb] at HZB
              go_wp2_with fail
              obtain ⟨W1, hW1⟩ : ∃ W1, wr.alloc (.cells #[.int .i64 s.kind, .string s.name, .int .i64 s.n, .int .i64 s.a.kind, .int .i64 s.a.n, .string s.a.name, .slice s.a.a s.a.args.length s.a.cap, .int .i64 s.b.kind, .int .i64 s.b.n, .string s.b.name, .slice s.b.a s.b.args.length s.b.cap, .slice s.ba s.body.length s.bc, .slice s.ea s.els.length s.ec, .slice s.ca s.cases.length s.cc] 53) = W1 := ⟨_, rfl⟩
              have BX : Hid (∀ (j : Nat) v, s.cells[j]? = some v → W1.cell? ⟨wr.heap.size, j, none⟩ = some v) := by
                show ∀ (j : Nat) v, _; intro j v h
                rw [← hW1, World.cell?_alloc_at _ _ _ _ rfl]; simpa [St.cells] using h
              have hb1 : Below w.heap.size w W1 := by rw [← hW1]; exact hb.alloc hws _
              have hbr : Below wr.heap.size wr W1 := by rw [← hW1]; exact (Below.refl _ wr).alloc (Nat.le_refl _) _
              have hs1 : wr.heap.size < W1.heap.size := by rw [← hW1]; simp
              rw [hW1]
              clear hW1 c0 c1 c2 c3 c4 c5 c6 c7 c8 c9 c10 c11 c12 c13
              have HI1 : Hid (s.In W1) := HI.out.stay hbr
              obtain ⟨Z, hZ⟩ : ∃ Z, wr.heap.size = Z := ⟨_, rfl⟩
              rw [hZ] at BX hs1 ⊢
              have CX : Hid (∀ w', Below W1.heap.size W1 w' → ∀ (j : Nat) v, s.cells[j]? = some v → w'.cell? ⟨Z, j, none⟩ = some v) := fun w' h j v e => (h.cell (p := ⟨Z, j, none⟩) hs1).trans (BX.out j v e)
              clear hbr hZ hb hws
              refine (HZA.out W1).mono ?_
              rintro e w2 ⟨rfl, hb2⟩
              have c7 := CX.out _ hb2 7 _ rfl
              have c8 := CX.out _ hb2 8 _ rfl
              have c9 := CX.out _ hb2 9 _ rfl
              have c10 := CX.out _ hb2 10 _ rfl
              go_wp2_with fail
              refine (HZB.out _).mono ?_
              rintro e w4 ⟨rfl, hb4⟩
              have hb4' := hb2.trans (hb4.mono hb2.size)
              clear hb2 hb4 c7 c8 c9 c10
              have c10 := CX.out _ hb4' 10 _ rfl
              go_wp2_with fail
              refine (rexprs_any s.b.args s.b.a s.b.cap (left - (m + 1) - 1) _ ((St.in_iff.1 (HI1.out.stay hb4')).2.2.2.2.1.have) (by omega) (by omega)).mono ?_
              have b2 := rL_bd s.b.args (left - (m + 1) - 1) 0
              generalize rL s.b.args (left - (m + 1) - 1) 0 = q2 at b2 EQ ⊢
              rintro e w5 ⟨rfl, hb5⟩
              have hb5' := hb4'.trans (hb5.mono hb4'.size)
              clear hb4' hb5 c10
              have c11 := CX.out _ hb5' 11 _ rfl
              go_wp2_with fail
              refine (IH.out s.body s.ba s.bc (left - ((m + 1) + (1 + q2))) _ (by have := s.sz_eq; have := HZ.out; omega) (St.in_iff.1 (HI1.out.stay hb5')).2.2.2.2.2.1 (by omega) (by omega)).mono ?_
              have b3 := rSs_bd s.body (left - ((m + 1) + (1 + q2))) 0
              generalize rSs s.body (left - ((m + 1) + (1 + q2))) 0 = q3 at b3 EQ ⊢
              rintro e w6 ⟨rfl, hb6⟩
              have hb6' := hb5'.trans (hb6.mono hb5'.size)
              clear hb5' hb6 c11
              obtain ⟨n4, hn4⟩ : ∃ n4, (m + 1) + (1 + q2) + q3 = n4 := ⟨_, rfl⟩
              have hn4b : 0 ≤ n4 ∧ n4 ≤ left + 3 := by omega
              rw [hn4] at EQ
              have HN4 := show Hid _ from hn4
              clear hn4
              go_wp2_with fail
              go_loopw [5, 8] (fun t5 t8 wq => ∃ (i : Nat) (p : Int), i ≤ s.cases.length ∧ t5 = .int .i64 p ∧ t8 = .int .i64 i ∧ 0 ≤ p ∧ p ≤ left + 3 ∧ rCs (s.cases.drop i) left p = rCs s.cases left n4 ∧ Below W1.heap.size W1 wq) (fun _ t8 _ => s.cases.length - (intOf t8).toNat)
              case atStart => exact ⟨0, n4, Nat.zero_le _, by have := HN4.out; go_num, rfl, hn4b.1, hn4b.2, by simp, hb6'⟩
              case round =>
                obtain ⟨i, p, hi, rfl, rfl, hp0, hp1, hpc, hbq⟩ := hrel
                have HPC : Hid (rCs (s.cases.drop i) left p = rCs s.cases left n4) := hpc
                clear hpc
                obtain ⟨hcl, hcc, _, hcr⟩ := (St.in_iff.1 (HI1.out.stay hbq)).2.2.2.2.2.2.2.1
                have HCR : Hid (RowIn wr s.ca 2 (s.cases.map Ca.cells)) := hcr
                clear hcr
                have c13 := CX.out _ hbq 13 _ rfl
                by_cases hilt : i < s.cases.length
                · have hili : (i : Int) < (s.cases.length : Int) := by omega
                  have HD2 : Hid (rCs (s.cases.drop i) left p = if p ≤ left then rCs (s.cases.drop (i + 1)) left (p + (1 + rC s.cases[i] (left - p - 1))) else p) := rCs_drop hilt
                  by_cases hpl : p ≤ left
                  · obtain ⟨b', o', hca, d0, d1⟩ := rowC_at HCR.out hilt
                    rw [hca] at c13
                    clear hca
                    rw [if_pos hpl, rC_eq] at HD2
                    have HIc : Hid (Have wr s.cases[i].ba s.cases[i].bc s.cases[i].body) := (Ca.in_iff.1 ((St.in_iff.1 (HI1.out.stay hbq)).2.2.2.2.2.2.2.2 _ (List.getElem_mem hilt))).2
                    have HZc : Hid (ssz s.cases[i].body ≤ k) := by
                      have h1 := csz_mem (List.getElem_mem hilt)
                      have h2 := (s.cases[i]).sz_eq
                      have h3 := s.sz_eq
                      have h4 := HZ.out
                      show ssz s.cases[i].body ≤ k
                      omega
                    generalize s.cases[i] = y at *
                    go_wp2_with fail
                    refine (IH.out y.body y.ba y.bc (left - p - 1) _ HZc.out HIc.out (by omega) (by omega)).mono ?_
                    have b4 := rSs_bd y.body (left - p - 1) 0
                    generalize rSs y.body (left - p - 1) 0 = q4 at b4 HD2 ⊢
                    rintro e w7 ⟨rfl, hb7⟩
                    have hb7' := hbq.trans (hb7.mono hbq.size)
                    clear hb7 c13 d0 d1
                    go_wp2_with fail
                    go_roundw
                    case rel =>
                      refine ⟨i + 1, p + (1 + q4), by omega, by go_num, by go_num, by omega, by omega, ?_, hb7'⟩
                      rw [← HPC.out, HD2.out]
                    case measure => simp [intOf]; omega
                  · rw [if_neg hpl] at HD2
                    have hpe : rCs s.cases left n4 = p := by rw [← HPC.out, HD2.out]
                    have c12 := CX.out _ hbq 12 _ rfl
                    go_wp2_with fail
                    refine (IH.out s.els s.ea s.ec (left - p) _ (by have := s.sz_eq; have := HZ.out; omega) (St.in_iff.1 (HI1.out.stay hbq)).2.2.2.2.2.2.1 (by omega) (by omega)).mono ?_
                    have b5 := rSs_bd s.els (left - p) 0
                    have EQ2 : Hid (rS s left m = p + rSs s.els (left - p) 0) := by show _ = _; rw [EQ.out, hpe]; rfl
                    generalize rSs s.els (left - p) 0 = q5 at b5 EQ2 ⊢
                    rintro e w8 ⟨rfl, hb8⟩
                    have hb8' := hb1.trans ((hbq.trans (hb8.mono hbq.size)).mono hb1.size)
                    clear hb8 c12 c13 hpe
                    go_wp2_with fail
                    go_roundw
                    case rel =>
                      refine ⟨j + 1, p + q5, by omega, by go_num, by go_num, by omega, by omega, ?_, hb8'⟩
                      rw [← HC.out, HD.out, EQ2.out]
                    case measure => simp [intOf]; omega
                · obtain rfl : i = s.cases.length := by omega
                  have hpe : rCs s.cases left n4 = p := by rw [← HPC.out, List.drop_eq_nil_of_le (Nat.le_refl _), rCs]
                  have c12 := CX.out _ hbq 12 _ rfl
                  go_wp2_with fail
                  refine (IH.out s.els s.ea s.ec (left - p) _ (by have := s.sz_eq; have := HZ.out; omega) (St.in_iff.1 (HI1.out.stay hbq)).2.2.2.2.2.2.1 (by omega) (by omega)).mono ?_
                  have b5 := rSs_bd s.els (left - p) 0
                  have EQ2 : Hid (rS s left m = p + rSs s.els (left - p) 0) := by show _ = _; rw [EQ.out, hpe]; rfl
                  generalize rSs s.els (left - p) 0 = q5 at b5 EQ2 ⊢
                  rintro e w8 ⟨rfl, hb8⟩
                  have hb8' := hb1.trans ((hbq.trans (hb8.mono hbq.size)).mono hb1.size)
                  clear hb8 c12 c13 hpe
                  go_wp2_with fail
                  go_roundw
                  case rel =>
                    refine ⟨j + 1, p + q5, by omega, by go_num, by go_num, by omega, by omega, ?_, hb8'⟩
                    rw [← HC.out, HD.out, EQ2.out]
                  case measure => simp [intOf]; omega
            · have EQ : Hid (rS s left m = rB s.els left (rCs s.cases left (m + 1 + rSs s.body (left - (m + 1)) 0))) := by
                show _ = _; rw [rS_eq, rZ_t hza, rZ_t hzb]; rfl
              rw [hza] at HZA
              rw [hzb] at HZB
              go_wp2_with fail
              obtain ⟨W1, hW1⟩ : ∃ W1, wr.alloc (.cells #[.int .i64 s.kind, .string s.name, .int .i64 s.n, .int .i64 s.a.kind, .int .i64 s.a.n, .string s.a.name, .slice s.a.a s.a.args.length s.a.cap, .int .i64 s.b.kind, .int .i64 s.b.n, .string s.b.name, .slice s.b.a s.b.args.length s.b.cap, .slice s.ba s.body.length s.bc, .slice s.ea s.els.length s.ec, .slice s.ca s.cases.length s.cc] 53) = W1 := ⟨_, rfl⟩
              have BX : Hid (∀ (j : Nat) v, s.cells[j]? = some v → W1.cell? ⟨wr.heap.size, j, none⟩ = some v) := by
                show ∀ (j : Nat) v, _; intro j v h
                rw [← hW1, World.cell?_alloc_at _ _ _ _ rfl]; simpa [St.cells] using h
              have hb1 : Below w.heap.size w W1 := by rw [← hW1]; exact hb.alloc hws _
              have hbr : Below wr.heap.size wr W1 := by rw [← hW1]; exact (Below.refl _ wr).alloc (Nat.le_refl _) _
              have hs1 : wr.heap.size < W1.heap.size := by rw [← hW1]; simp
              rw [hW1]
              clear hW1 c0 c1 c2 c3 c4 c5 c6 c7 c8 c9 c10 c11 c12 c13
              have HI1 : Hid (s.In W1) := HI.out.stay hbr
              obtain ⟨Z, hZ⟩ : ∃ Z, wr.heap.size = Z := ⟨_, rfl⟩
              rw [hZ] at BX hs1 ⊢
              have CX : Hid (∀ w', Below W1.heap.size W1 w' → ∀ (j : Nat) v, s.cells[j]? = some v → w'.cell? ⟨Z, j, none⟩ = some v) := fun w' h j v e => (h.cell (p := ⟨Z, j, none⟩) hs1).trans (BX.out j v e)
              clear hbr hZ hb hws
              refine (HZA.out W1).mono ?_
              rintro e w2 ⟨rfl, hb2⟩
              have c7 := CX.out _ hb2 7 _ rfl
              have c8 := CX.out _ hb2 8 _ rfl
              have c9 := CX.out _ hb2 9 _ rfl
              have c10 := CX.out _ hb2 10 _ rfl
              go_wp2_with fail
              refine (HZB.out _).mono ?_
              rintro e w4 ⟨rfl, hb4⟩
              have hb4' := hb2.trans (hb4.mono hb2.size)
              clear hb2 hb4 c7 c8 c9 c10
              have c11 := CX.out _ hb4' 11 _ rfl
              go_wp2_with fail
              refine (IH.out s.body s.ba s.bc (left - (m + 1)) _ (by have := s.sz_eq; have := HZ.out; omega) (St.in_iff.1 (HI1.out.stay hb4')).2.2.2.2.2.1 (by omega) (by omega)).mono ?_
              have b3 := rSs_bd s.body (left - (m + 1)) 0
              generalize rSs s.body (left - (m + 1)) 0 = q3 at b3 EQ ⊢
              rintro e w6 ⟨rfl, hb6⟩
              have hb6' := hb4'.trans (hb6.mono hb4'.size)
              clear hb4' hb6 c11
              obtain ⟨n4, hn4⟩ : ∃ n4, m + 1 + q3 = n4 := ⟨_, rfl⟩
              have hn4b : 0 ≤ n4 ∧ n4 ≤ left + 3 := by omega
              rw [hn4] at EQ
              have HN4 := show Hid _ from hn4
              clear hn4
              go_wp2_with fail
              go_loopw [5, 8] (fun t5 t8 wq => ∃ (i : Nat) (p : Int), i ≤ s.cases.length ∧ t5 = .int .i64 p ∧ t8 = .int .i64 i ∧ 0 ≤ p ∧ p ≤ left + 3 ∧ rCs (s.cases.drop i) left p = rCs s.cases left n4 ∧ Below W1.heap.size W1 wq) (fun _ t8 _ => s.cases.length - (intOf t8).toNat)
              case atStart => exact ⟨0, n4, Nat.zero_le _, by have := HN4.out; go_num, rfl, hn4b.1, hn4b.2, by simp, hb6'⟩
              case round =>
                obtain ⟨i, p, hi, rfl, rfl, hp0, hp1, hpc, hbq⟩ := hrel
                have HPC : Hid (rCs (s.cases.drop i) left p = rCs s.cases left n4) := hpc
                clear hpc
                obtain ⟨hcl, hcc, _, hcr⟩ := (St.in_iff.1 (HI1.out.stay hbq)).2.2.2.2.2.2.2.1
                have HCR : Hid (RowIn wr s.ca 2 (s.cases.map Ca.cells)) := hcr
                clear hcr
                have c13 := CX.out _ hbq 13 _ rfl
                by_cases hilt : i < s.cases.length
                · have hili : (i : Int) < (s.cases.length : Int) := by omega
                  have HD2 : Hid (rCs (s.cases.drop i) left p = if p ≤ left then rCs (s.cases.drop (i + 1)) left (p + (1 + rC s.cases[i] (left - p - 1))) else p) := rCs_drop hilt
                  by_cases hpl : p ≤ left
                  · obtain ⟨b', o', hca, d0, d1⟩ := rowC_at HCR.out hilt
                    rw [hca] at c13
                    clear hca
                    rw [if_pos hpl, rC_eq] at HD2
                    have HIc : Hid (Have wr s.cases[i].ba s.cases[i].bc s.cases[i].body) := (Ca.in_iff.1 ((St.in_iff.1 (HI1.out.stay hbq)).2.2.2.2.2.2.2.2 _ (List.getElem_mem hilt))).2
                    have HZc : Hid (ssz s.cases[i].body ≤ k) := by
                      have h1 := csz_mem (List.getElem_mem hilt)
                      have h2 := (s.cases[i]).sz_eq
                      have h3 := s.sz_eq
                      have h4 := HZ.out
                      show ssz s.cases[i].body ≤ k
                      omega
                    generalize s.cases[i] = y at *
                    go_wp2_with fail
                    refine (IH.out y.body y.ba y.bc (left - p - 1) _ HZc.out HIc.out (by omega) (by omega)).mono ?_
                    have b4 := rSs_bd y.body (left - p - 1) 0
                    generalize rSs y.body (left - p - 1) 0 = q4 at b4 HD2 ⊢
                    rintro e w7 ⟨rfl, hb7⟩
                    have hb7' := hbq.trans (hb7.mono hbq.size)
                    clear hb7 c13 d0 d1
                    go_wp2_with fail
                    go_roundw
                    case rel =>
                      refine ⟨i + 1, p + (1 + q4), by omega, by go_num, by go_num, by omega, by omega, ?_, hb7'⟩
                      rw [← HPC.out, HD2.out]
                    case measure => simp [intOf]; omega
                  · rw [if_neg hpl] at HD2
                    have hpe : rCs s.cases left n4 = p := by rw [← HPC.out, HD2.out]
                    have c12 := CX.out _ hbq 12 _ rfl
                    go_wp2_with fail
                    refine (IH.out s.els s.ea s.ec (left - p) _ (by have := s.sz_eq; have := HZ.out; omega) (St.in_iff.1 (HI1.out.stay hbq)).2.2.2.2.2.2.1 (by omega) (by omega)).mono ?_
                    have b5 := rSs_bd s.els (left - p) 0
                    have EQ2 : Hid (rS s left m = p + rSs s.els (left - p) 0) := by show _ = _; rw [EQ.out, hpe]; rfl
                    generalize rSs s.els (left - p) 0 = q5 at b5 EQ2 ⊢
                    rintro e w8 ⟨rfl, hb8⟩
                    have hb8' := hb1.trans ((hbq.trans (hb8.mono hbq.size)).mono hb1.size)
                    clear hb8 c12 c13 hpe
                    go_wp2_with fail
                    go_roundw
                    case rel =>
                      refine ⟨j + 1, p + q5, by omega, by go_num, by go_num, by omega, by omega, ?_, hb8'⟩
                      rw [← HC.out, HD.out, EQ2.out]
                    case measure => simp [intOf]; omega
                · obtain rfl : i = s.cases.length := by omega
                  have hpe : rCs s.cases left n4 = p := by rw [← HPC.out, List.drop_eq_nil_of_le (Nat.le_refl _), rCs]
                  have c12 := CX.out _ hbq 12 _ rfl
                  go_wp2_with fail
                  refine (IH.out s.els s.ea s.ec (left - p) _ (by have := s.sz_eq; have := HZ.out; omega) (St.in_iff.1 (HI1.out.stay hbq)).2.2.2.2.2.2.1 (by omega) (by omega)).mono ?_
                  have b5 := rSs_bd s.els (left - p) 0
                  have EQ2 : Hid (rS s left m = p + rSs s.els (left - p) 0) := by show _ = _; rw [EQ.out, hpe]; rfl
                  generalize rSs s.els (left - p) 0 = q5 at b5 EQ2 ⊢
                  rintro e w8 ⟨rfl, hb8⟩
                  have hb8' := hb1.trans ((hbq.trans (hb8.mono hbq.size)).mono hb1.size)
                  clear hb8 c12 c13 hpe
                  go_wp2_with fail
                  go_roundw
                  case rel =>
                    refine ⟨j + 1, p + q5, by omega, by go_num, by go_num, by omega, by omega, ?_, hb8'⟩
                    rw [← HC.out, HD.out, EQ2.out]
                  case measure => simp [intOf]; omega
        · rw [if_neg hm] at HD
          go_wp2_with fail
          go_ret
          exact ⟨ret_int (by rw [← HC.out, HD.out]), hb⟩
      · obtain rfl : j = l.length := by omega
        go_wp2_with fail
        go_ret
        exact ⟨ret_int (by rw [← HC.out, List.drop_eq_nil_of_le (Nat.le_refl _), rSs]), hb⟩
theorem rstmts_any (l : List St) (a : Option Addr) (c : Nat) (left : Int) (w : World) (hin : Have w a c l) (h0 : -8 ≤ left) (h1 : left ≤ 4611686018427387904) :
    Calls Tryd.prog 27 #[.slice a l.length c, .int .i64 left] w fun e w' => e = .returned (.int .i64 (rSs l left 0)) ∧ Below w.heap.size w w' := rstmts_k _ l a c left w (Nat.le_refl _) hin h0 h1
end Go.Proofs.YtbpemackmadhgabDoor

/- The document's own bound on parts: what it answers, and what follows of it. -/
namespace Go.Proofs.YtbpemackmadhgabDoor
open Go.RowKit

def bigF : List Fu → Int → Int
  | [], left => left
  | f :: r, left => if 0 ≤ left then bigF r (if 0 ≤ left - (1 + f.params.length) then left - (1 + f.params.length) - rSs f.body (left - (1 + f.params.length)) 0 else left - (1 + f.params.length)) else left
def bigZ (p : Pr) : Bool := decide (bigF p.funcs 1048576 < 0) || decide ((1048576 : Int) < p.widen.length)
theorem bigF_drop {l : List Fu} {j : Nat} {left : Int} (h : j < l.length) : bigF (l.drop j) left = if 0 ≤ left then bigF (l.drop (j + 1)) (if 0 ≤ left - (1 + l[j].params.length) then left - (1 + l[j].params.length) - rSs l[j].body (left - (1 + l[j].params.length)) 0 else left - (1 + l[j].params.length)) else left := by
  rw [List.drop_eq_getElem_cons h, bigF]

theorem fewE_of (k : Nat) : ∀ (l : List Ex) (left n : Int), szL l ≤ k → 0 ≤ n → left ≤ 1048576 → rL l left n ≤ left → n + l.length ≤ left ∧ ∀ x ∈ l, x.Few := by
  induction k with
  | zero =>
    intro l left n hk h0 h1 h2
    cases l with
    | nil => rw [rL] at h2; simp; omega
    | cons x r => rw [szL] at hk; have := x.sz_args; omega
  | succ k ih =>
    intro l
    induction l with
    | nil => intro left n hk h0 h1 h2; rw [rL] at h2; simp; omega
    | cons x r ihr =>
      intro left n hk h0 h1 h2
      rw [szL] at hk
      have hn := (rL_bd (x :: r) left n).1
      rw [rL, if_pos (by omega)] at h2
      have hb := rE_bd x (left - n - 1)
      have hm := (rL_bd r left (n + (1 + rE x (left - n - 1)))).1
      obtain ⟨a1, a2⟩ := ihr left (n + (1 + rE x (left - n - 1))) (by omega) (by omega) h1 h2
      have hx : rL x.args (left - n - 1) 0 ≤ left - n - 1 := by rw [← rE_args]; omega
      obtain ⟨b1, b2⟩ := ih x.args (left - n - 1) 0 (by have := x.sz_args; omega) (by omega) (by omega) hx
      refine ⟨by simp only [List.length_cons]; omega, fun y hy => ?_⟩
      rcases List.mem_cons.1 hy with rfl | hy
      · exact Ex.few_iff.2 ⟨by omega, b2⟩
      · exact a2 y hy
theorem zeroE_args {x : Ex} (h : zeroE x = true) : x.args = [] := by
  obtain ⟨kd, n, s, a, c, l⟩ := x
  cases l with
  | nil => rfl
  | cons y r => simp [zeroE, Ex.args] at h
theorem fewZ_of {x : Ex} {left n : Int} (h0 : 0 ≤ n) (h1 : left ≤ 1048576) (h2 : rZ x left n ≤ left) : x.Few := by
  cases hz : zeroE x with
  | true => rw [Ex.few_iff, zeroE_args hz]; simp
  | false =>
    rw [rZ_f hz] at h2
    obtain ⟨b1, b2⟩ := fewE_of _ x.args (left - n - 1) 0 (Nat.le_refl _) (by omega) (by omega) (by omega)
    exact Ex.few_iff.2 ⟨by omega, b2⟩
theorem rCs_ge : ∀ (l : List Ca) (left n : Int), n ≤ rCs l left n
  | [], _, _ => by rw [rCs]; omega
  | c :: r, left, n => by
    rw [rCs]
    split
    · have := rCs_ge r left (n + (1 + rC c (left - n - 1)))
      have := rC_bd c (left - n - 1)
      omega
    · omega
theorem fewS_of (k : Nat) : ∀ (l : List St) (left n : Int), ssz l ≤ k → 0 ≤ n → left ≤ 1048576 → rSs l left n ≤ left → n + l.length ≤ left ∧ ∀ x ∈ l, x.Few := by
  induction k with
  | zero =>
    intro l left n hk h0 h1 h2
    cases l with
    | nil => rw [rSs] at h2; simp; omega
    | cons x r => rw [ssz] at hk; have := x.sz_eq; omega
  | succ k ih =>
    have hC : ∀ (l : List Ca) (left n : Int), csz l ≤ k → 0 ≤ n → left ≤ 1048576 → rCs l left n ≤ left → n + l.length ≤ left ∧ ∀ x ∈ l, x.Few := fun l => by
      induction l with
      | nil => intro left n hk h0 h1 h2; rw [rCs] at h2; simp; omega
      | cons c r ihr =>
        intro left n hk h0 h1 h2
        rw [csz] at hk
        by_cases hn : n ≤ left
        · rw [rCs, if_pos hn] at h2
          have hb := rC_bd c (left - n - 1)
          have hm : n + (1 + rC c (left - n - 1)) ≤ rCs r left (n + (1 + rC c (left - n - 1))) := rCs_ge r left _
          obtain ⟨a1, a2⟩ := ihr left (n + (1 + rC c (left - n - 1))) (by omega) (by omega) h1 h2
          have hx : rSs c.body (left - n - 1) 0 ≤ left - n - 1 := by rw [← rC_eq]; omega
          obtain ⟨b1, b2⟩ := ih c.body (left - n - 1) 0 (by have := c.sz_eq; omega) (by omega) (by omega) hx
          refine ⟨by simp only [List.length_cons]; omega, fun y hy => ?_⟩
          rcases List.mem_cons.1 hy with rfl | hy
          · exact Ca.few_iff.2 ⟨by omega, b2⟩
          · exact a2 y hy
        · rw [rCs, if_neg hn] at h2; omega
    intro l
    induction l with
    | nil => intro left n hk h0 h1 h2; rw [rSs] at h2; simp; omega
    | cons s r ihr =>
      intro left n hk h0 h1 h2
      rw [ssz] at hk
      have hn := (rSs_bd (s :: r) left n).1
      have hnl : n ≤ left := by omega
      rw [rSs, if_pos hnl] at h2
      have hm := (rSs_bd r left (rS s left n)).1
      have hge := rS_bd s left n (by omega)
      obtain ⟨a1, a2⟩ := ihr left (rS s left n) (by omega) (by omega) h1 h2
      have hs : rS s left n ≤ left := by omega
      rw [rS_eq] at hs
      have e1 := rZ_bd s.a left (n + 1)
      have e2 := rZ_bd s.b left (rZ s.a left (n + 1))
      have e3 := rB_bd s.body left (rZ s.b left (rZ s.a left (n + 1)))
      have e4 := rCs_ge s.cases left (rB s.body left (rZ s.b left (rZ s.a left (n + 1))))
      have e5 := rB_bd s.els left (rCs s.cases left (rB s.body left (rZ s.b left (rZ s.a left (n + 1)))))
      have hz := s.sz_eq
      have f1 := fewZ_of (x := s.a) (left := left) (n := n + 1) (by omega) h1 (by omega)
      have f2 := fewZ_of (x := s.b) (left := left) (n := rZ s.a left (n + 1)) (by omega) h1 (by omega)
      obtain ⟨g1, g2⟩ := ih s.body (left - rZ s.b left (rZ s.a left (n + 1))) 0 (by omega) (by omega) (by omega) (by unfold rB at *; omega)
      obtain ⟨h3, h4⟩ := hC s.cases left (rB s.body left (rZ s.b left (rZ s.a left (n + 1)))) (by omega) (by omega) h1 (by omega)
      obtain ⟨i1, i2⟩ := ih s.els (left - rCs s.cases left (rB s.body left (rZ s.b left (rZ s.a left (n + 1))))) 0 (by omega) (by omega) (by omega) (by
        have : rB s.els left (rCs s.cases left (rB s.body left (rZ s.b left (rZ s.a left (n + 1))))) = rCs s.cases left (rB s.body left (rZ s.b left (rZ s.a left (n + 1)))) + rSs s.els (left - rCs s.cases left (rB s.body left (rZ s.b left (rZ s.a left (n + 1))))) 0 := rfl
        omega)
      refine ⟨by simp only [List.length_cons]; omega, fun y hy => ?_⟩
      rcases List.mem_cons.1 hy with rfl | hy
      · exact St.few_iff.2 ⟨f1, f2, by omega, g2, by omega, i2, by omega, h4⟩
      · exact a2 y hy
theorem bigF_few : ∀ (l : List Fu) (left : Int), left ≤ 1048576 → 0 ≤ bigF l left → l.length ≤ left ∧ ∀ f ∈ l, f.Few
  | [], left, _, h => by rw [bigF] at h; simp; omega
  | f :: r, left, h1, h => by
    have hle : ∀ (l : List Fu) (left : Int), bigF l left ≤ left := fun l => by
      induction l with
      | nil => intro left; rw [bigF]; omega
      | cons f r ih =>
        intro left
        rw [bigF]
        split
        · refine Int.le_trans (ih _) ?_
          have := rSs_bd f.body (left - (1 + f.params.length)) 0
          split <;> omega
        · omega
    have h0 := hle (f :: r) left
    rw [bigF, if_pos (by omega)] at h
    have h2 := hle r (if 0 ≤ left - (1 + f.params.length) then left - (1 + f.params.length) - rSs f.body (left - (1 + f.params.length)) 0 else left - (1 + f.params.length))
    by_cases h3 : 0 ≤ left - (1 + f.params.length)
    · rw [if_pos h3] at h h2
      have hb := rSs_bd f.body (left - (1 + f.params.length)) 0
      obtain ⟨a1, a2⟩ := bigF_few r _ (by omega) h
      obtain ⟨b1, b2⟩ := fewS_of _ f.body (left - (1 + f.params.length)) 0 (Nat.le_refl _) (by omega) (by omega) (by omega)
      refine ⟨by simp only [List.length_cons]; omega, fun y hy => ?_⟩
      rcases List.mem_cons.1 hy with rfl | hy
      · exact ⟨by omega, by omega, b2⟩
      · exact a2 y hy
    · rw [if_neg h3] at h h2
      omega
theorem few_of_big {p : Pr} (h : bigZ p = false) : p.Few := by
  simp only [bigZ, Bool.or_eq_false_iff, decide_eq_false_iff_not] at h
  obtain ⟨a1, a2⟩ := bigF_few p.funcs 1048576 (by omega) (by omega)
  exact ⟨by omega, by omega, a2⟩

set_option maxRecDepth 100000 in
set_option maxHeartbeats 4000000 in
theorem big_any (p : Pr) (w : World) (hin : p.In w) : Calls Tryd.prog 12 #[p.val] w fun e w' => e = .returned (.bool (bigZ p)) ∧ Below w.heap.size w w' := by
  obtain ⟨h1, h2, h3, h4, h5, h6, h7, h8, hrow, hsub⟩ := hin
  have HR : Hid (RowIn w p.fa 3 (List.map Fu.cells p.funcs)) := hrow
  have HS : Hid (∀ f ∈ p.funcs, f.In w) := hsub
  clear hrow hsub h3 h4 h5 h8
  have HZ : Hid (bigZ p = (decide (bigF p.funcs 1048576 < 0) || decide ((1048576 : Int) < p.widen.length))) := (rfl : bigZ p = _)
  generalize bigZ p = res at HZ ⊢
  unfold Pr.val
  obtain ⟨W1, hW1⟩ : ∃ W1, w.alloc (.cells #[.slice p.wa p.widen.length p.wc, .slice p.fa p.funcs.length p.fc] 25) = W1 := ⟨_, rfl⟩
  have HW1 := show Hid _ from hW1
  have hb1 : Below w.heap.size w W1 := by rw [← hW1]; exact (Below.refl _ w).alloc (Nat.le_refl _) _
  have hc : ∀ (j : Nat) v, (#[.slice p.wa p.widen.length p.wc, .slice p.fa p.funcs.length p.fc] : Array Value)[j]? = some v → ∀ w', Below W1.heap.size W1 w' → w'.cell? ⟨w.heap.size, j, none⟩ = some v := fun j v e w' h => by
    refine (h.cell (p := ⟨w.heap.size, j, none⟩) (by rw [← hW1]; simp)).trans ?_
    rw [← hW1, World.cell?_alloc_at _ _ _ _ rfl]; exact e
  have CX := show Hid _ from hc 1 _ rfl
  have CW := show Hid _ from hc 0 _ rfl
  clear hW1 hc
  go_enter Tryd.func12, Tryd.ntmps12
  go_wp2_with fail
  rw [HW1.out]
  clear HW1
  obtain ⟨Z, hZ⟩ : ∃ Z, w.heap.size = Z := ⟨_, rfl⟩
  have HW : Hid (w.heap.size = Z) := hZ
  rw [hZ] at CX CW ⊢
  clear hZ
  go_loopw [3, 4] (fun t3 t4 wr => ∃ (j : Nat) (m : Int), j ≤ p.funcs.length ∧ t3 = .int .i64 m ∧ t4 = .int .i64 j ∧ -9223372036854775000 ≤ m ∧ m ≤ 1048576 ∧ bigF (p.funcs.drop j) m = bigF p.funcs 1048576 ∧ Below W1.heap.size W1 wr) (fun _ t4 _ => p.funcs.length - (intOf t4).toNat)
  case atStart => exact ⟨0, 1048576, Nat.zero_le _, rfl, rfl, by omega, by omega, by simp, Below.refl _ _⟩
  case round =>
    obtain ⟨j, m, hj, rfl, rfl, hm0, hm1, hcnt, hb⟩ := hrel
    have HC : Hid (bigF (p.funcs.drop j) m = bigF p.funcs 1048576) := hcnt
    clear hcnt
    have hws := hb.size
    have hbw : Below w.heap.size w wr := hb1.trans (hb.mono hb1.size)
    have c1 := CX.out _ hb
    have cw := CW.out _ hb
    by_cases hlt : j < p.funcs.length
    · have hli : (j : Int) < (p.funcs.length : Int) := by omega
      have HD : Hid (bigF (p.funcs.drop j) m = if 0 ≤ m then bigF (p.funcs.drop (j + 1)) (if 0 ≤ m - (1 + p.funcs[j].params.length) then m - (1 + p.funcs[j].params.length) - rSs p.funcs[j].body (m - (1 + p.funcs[j].params.length)) 0 else m - (1 + p.funcs[j].params.length)) else m) := bigF_drop hlt
      by_cases hm : 0 ≤ m
      · obtain ⟨b, o, hfa, d0, d1, d2⟩ := rowF_at (HR.out.below hbw) hlt
        rw [hfa] at c1
        clear hfa
        have hfi := HS.out p.funcs[j] (List.getElem_mem hlt)
        have hp1 := hfi.2.1
        have hp2 := hfi.2.2.1
        have HH : Hid (Have wr p.funcs[j].ba p.funcs[j].bc p.funcs[j].body) := hfi.2.2.2.2.2.2.stay hbw
        rw [if_pos hm] at HD
        clear hfi
        generalize p.funcs[j] = f at *
        by_cases hq : 0 ≤ m - (1 + (f.params.length : Int))
        · rw [if_pos hq] at HD
          have hbd := rSs_bd f.body (m - (1 + f.params.length)) 0
          go_wp2_with fail
          refine (rstmts_any f.body f.ba f.bc (m - (1 + f.params.length)) _ HH.out (by omega) (by omega)).mono ?_
          generalize rSs f.body (m - (1 + f.params.length)) 0 = q at hbd HD ⊢
          rintro e w' ⟨rfl, hb'⟩
          have hb2 := hb.trans (hb'.mono hws)
          clear c1 d0 d1 d2 cw
          go_wp2_with fail
          go_roundw
          case rel =>
            refine ⟨j + 1, m - (1 + f.params.length) - q, by omega, by go_num, by go_num, by omega, by omega, ?_, hb2⟩
            rw [← HC.out, HD.out]
          case measure => simp [intOf]; omega
        · rw [if_neg hq] at HD
          clear cw
          go_wp2_with fail
          go_roundw
          case rel =>
            refine ⟨j + 1, m - (1 + f.params.length), by omega, by go_num, by go_num, by omega, by omega, ?_, hb⟩
            rw [← HC.out, HD.out]
          case measure => simp [intOf]; omega
      · rw [if_neg hm] at HD
        have he : res = true := by rw [HZ.out, ← HC.out, HD.out, decide_eq_true (by omega)]; rfl
        clear HZ
        subst he
        go_wp2_with fail
        go_ret
        exact ⟨rfl, hbw⟩
    · obtain rfl : j = p.funcs.length := by omega
      have he : bigF p.funcs 1048576 = m := by rw [← HC.out, List.drop_eq_nil_of_le (Nat.le_refl _), bigF]
      rw [he] at HZ
      clear he HC
      by_cases hm : m < 0
      · have he : res = true := by rw [HZ.out, decide_eq_true hm]; rfl
        clear HZ
        subst he
        go_wp2_with fail
        go_ret
        exact ⟨rfl, hbw⟩
      · have he : res = decide ((1048576 : Int) < p.widen.length) := by rw [HZ.out, decide_eq_false hm]; rfl
        clear HZ
        subst he
        go_wp2_with fail
        go_ret
        exact ⟨by simp, hbw⟩
end Go.Proofs.YtbpemackmadhgabDoor

/- The document's own answer whether two lists of cases, of statements are the same: cases; and where two statements are looked at. -/
namespace Go.Proofs.YtbpemackmadhgabDoor
open Go.RowKit Go.Sort

set_option maxRecDepth 100000 in
set_option maxHeartbeats 8000000 in
theorem rsamC_step (n : Nat) (ih : ∀ (l t : List St) (a a' : Option Addr) (c c' : Nat) (w : World), ssz l < n → Have w a c l → Have w a' c' t →
      Calls Tryd.prog 29 #[.slice a l.length c, .slice a' t.length c'] w fun e w' => e = .returned (.bool (samSs l t)) ∧ Below w.heap.size w w')
    (l t : List Ca) (a a' : Option Addr) (c c' : Nat) (w : World) (hk : csz l ≤ n) (hin : HaveC w a c l) (hin' : HaveC w a' c' t) :
    Calls Tryd.prog 50 #[.slice a l.length c, .slice a' t.length c'] w fun e w' => e = .returned (.bool (samCs l t)) ∧ Below w.heap.size w w' := by
  have IH : Hid (∀ (l t : List St) (a a' : Option Addr) (c c' : Nat) (w : World), ssz l < n → Have w a c l → Have w a' c' t →
      Calls Tryd.prog 29 #[.slice a l.length c, .slice a' t.length c'] w fun e w' => e = .returned (.bool (samSs l t)) ∧ Below w.heap.size w w') := ih
  have HA : Hid (HaveC w a c l) := hin
  have HB : Hid (HaveC w a' c' t) := hin'
  have hl := hin.1.1
  have hc := hin.1.2.1
  have hl' := hin'.1.1
  have hc' := hin'.1.2.1
  have HK : Hid (csz l ≤ n) := hk
  clear ih hin hin' hk
  by_cases hle : l.length = t.length
  · have HL : Hid (l.length = t.length) := hle
    rw [← hle] at hl' ⊢
    clear hle
    go_enter Tryd.func50, Tryd.ntmps50
    go_wp2_with fail
    go_loopw [5] (fun t5 wr => ∃ (j : Nat), j ≤ l.length ∧ t5 = .int .i64 j ∧ samCs (l.drop j) (t.drop j) = samCs l t ∧ Below w.heap.size w wr) (fun t5 _ => l.length - (intOf t5).toNat)
    case atStart => exact ⟨0, Nat.zero_le _, rfl, rfl, Below.refl _ w⟩
    case round =>
      obtain ⟨j, hj, rfl, hcnt, hb⟩ := hrel
      have HC : Hid (samCs (l.drop j) (t.drop j) = samCs l t) := hcnt
      clear hcnt
      have hws := hb.size
      by_cases hlt : j < l.length
      · have hlt' : j < t.length := by have := HL.out; omega
        obtain ⟨b, o, rfl, hc1⟩ := rowC_cells (HA.out.1.2.2.2.below hb) hlt
        obtain ⟨b', o', rfl, hc2⟩ := rowC_cells (HB.out.1.2.2.2.below hb) hlt'
        have k0 := hc1 0 _ rfl
        have m0 := hc2 0 _ rfl
        have k1 := hc1 1 _ rfl
        have m1 := hc2 1 _ rfl
        simp only [← Nat.add_assoc, Nat.add_zero] at k0 m0 k1 m1
        clear hc1 hc2
        have hli : (j : Int) < (l.length : Int) := by omega
        have HQ : Hid (∀ w', Below wr.heap.size wr w' → Calls Tryd.prog 29 #[.slice l[j].ba l[j].body.length l[j].bc, .slice t[j].ba t[j].body.length t[j].bc] w' fun e w'' => e = .returned (.bool (samSs l[j].body t[j].body)) ∧ Below w'.heap.size w' w'') := fun w' h => by
          have hbw : Below w.heap.size w w' := hb.trans (h.mono hws)
          have h1 := csz_mem (List.getElem_mem hlt)
          have h2 := (l[j]).sz_eq
          have h3 := HK.out
          exact IH.out _ _ _ _ _ _ w' (by omega) (Ca.in_iff.1 ((HA.out.2 l[j] (List.getElem_mem hlt)).stay hbw)).2 (Ca.in_iff.1 ((HB.out.2 t[j] (List.getElem_mem hlt')).stay hbw)).2
        have HD : Hid (samCs (l.drop j) (t.drop j) = ((l[j].n == t[j].n && samSs l[j].body t[j].body) && samCs (l.drop (j + 1)) (t.drop (j + 1)))) := by
          show _ = _; rw [samCs_drop hlt hlt', samC_eq]
        generalize l[j] = x at *
        generalize t[j] = y at *
        generalize samSs x.body y.body = sub at *
        have c0 := cell_regrown k0
        have d0 := cell_regrown m0
        have c1 := cell_regrown k1
        have d1 := cell_regrown m1
        clear k0 k1 m0 m1 hlt'
        have hu : undef = Value.tuple #[] := rfl
        cases e1 : (x.n == y.n)
        · have e1' : (x.n != y.n) = true := by simp [bne, e1]
          rw [e1] at HD
          go_wp2_with fail
          refine wp_region_quiet_below (by kernel_rfl) (by kernel_rfl) ?_
          repeat (go_big_quiet_step (fail))
          refine wpQuiet_nil ?_
          intro _ hw'
          obtain ⟨⟨dq, osq⟩, hw''⟩ := hw'
          subst hw''
          have hbq := below_regrown wr dq osq
          clear c0 c1 d0 d1
          go_wp2_with fail
          go_ret
          exact ⟨ret_bool (by rw [← HC.out, HD.out]; rfl), hb.trans (hbq.mono hws)⟩
        · have e1' : (x.n != y.n) = false := by simp [bne, e1]
          rw [e1] at HD
          go_wp2_with fail
          refine wp_region_quiet_below (by kernel_rfl) (by kernel_rfl) ?_
          repeat (go_big_quiet_step ((go_at_call 29; exact Calls.regrown_of (HQ.out _ (below_regrown _ _ _)))))
          refine wpQuiet_nil ?_
          intro _ hw'
          obtain ⟨⟨dq, osq⟩, hw''⟩ := hw'
          subst hw''
          have hbq := below_regrown wr dq osq
          clear c0 c1 d0 d1
          generalize grow (redrawn wr dq) osq = W3 at *
          cases sub
          · go_wp2_with fail
            go_ret
            exact ⟨ret_bool (by rw [← HC.out, HD.out]; rfl), hb.trans (hbq.mono hws)⟩
          · go_wp2_with fail
            go_roundw
            case rel => exact ⟨j + 1, by omega, by go_num, by rw [← HC.out, HD.out]; rfl, hb.trans (hbq.mono hws)⟩
            case measure => simp [intOf]; omega
      · go_wp2_with fail
        go_ret
        refine ⟨ret_bool ?_, hb⟩
        rw [← HC.out, List.drop_eq_nil_of_le (by omega), List.drop_eq_nil_of_le (by have := HL.out; omega)]; simp [samCs]
  · have hne : ((l.length : Int) != (t.length : Int)) = true := by simp only [bne_iff_ne]; omega
    go_enter Tryd.func50, Tryd.ntmps50
    go_wp2_with fail
    go_ret
    exact ⟨ret_bool (by rw [samCs_len hle]), Below.refl _ w⟩
end Go.Proofs.YtbpemackmadhgabDoor
