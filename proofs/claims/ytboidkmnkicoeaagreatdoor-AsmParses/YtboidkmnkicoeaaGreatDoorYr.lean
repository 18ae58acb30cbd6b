/- asm.draft.addHead. -/
import Derived.Test.YtboidkmnkicoeaaGreatDoorJo
import Derived.Test.YtboidkmnkicoeaaGreatDoorYw
namespace Go.Proofs.YtboidkmnkicoeaaGreatDoor
open Go.RowKit Go.Sort

/-- What the loop over the parameters holds: the function's block and the row of its parameters, behind all that there was. -/
structure HdI (W0 : World) (F : Nat) (nm : ByteArray) (l0 l1 : Int) (L : List Int) (j : Nat) (vp : Value) (W : World) : Prop where
  fb : W.heap[F]? = some (.cells #[.string nm, vp, .int .i64 l0, .int .i64 l1, .slice none 0 0] 34)
  op : W.ownsRow F 38 2 vp j (((prs (L.drop 2)).take j).flatMap spC)
  bf : Below F W0 W
theorem HdI.drew {W0 : World} {F : Nat} {nm : ByteArray} {l0 l1 : Int} {L : List Int} {j : Nat} {vp : Value} {W : World} (h : HdI W0 F nm l0 l1 L j vp W) : HdI W0 F nm l0 l1 L j vp W.drew := ⟨h.fb, h.op, Below.drew h.bf⟩
theorem HdI.next {W0 : World} {F : Nat} {nm : ByteArray} {l0 l1 : Int} {L : List Int} {j : Nat} {vp vp' : Value} {W W' : World} (h : HdI W0 F nm l0 l1 L j vp W) (o : Obj) (hg : (W.alloc o).grownBy W' vp.ownBlock) {s : Sp} (hs : (prs (L.drop 2))[j]? = some s) (ho : W'.ownsRow F 38 2 vp' (j + 1) (((prs (L.drop 2)).take j).flatMap spC ++ spC s)) :
    HdI W0 F nm l0 l1 L (j + 1) vp' (W'.setCell ⟨F, 1, none⟩ vp') ∧ W'.heap[F]? = some (.cells #[.string nm, vp, .int .i64 l0, .int .i64 l1, .slice none 0 0] 34) := by
  have hbo := Below.one (Below.refl _ W) o
  have hlt := (Array.getElem?_eq_some_iff.1 h.fb).1
  have h1 := (hbo.block _ hlt).trans h.fb
  have h2 := grown_other (h.op.alloc o) hg h1 (by decide)
  refine ⟨⟨?_, ?_, ?_⟩, h2⟩
  · have := heap_setCell_same W' F 1 _ _ vp' h2; simpa using this
  · rw [List.take_add_one, hs]
    show (W'.setCell _ _).ownsRow _ _ _ _ _ ((List.take j (prs (L.drop 2)) ++ [s]).flatMap spC)
    rw [List.flatMap_append, show [s].flatMap spC = spC s by simp]
    exact own_set ho h2 (by decide) _ _
  · exact ((h.bf.alloc (by omega) o).grown hg (by simp; omega) (fun k e => own_base (h.op.alloc o) k e)).setCell (Nat.le_refl _) _
/-- What is read in a round lies there. -/
def HdS (W0 : World) (F : Nat) (cs : Array Value) (W : World) : Prop := Below F W0 W ∧ W.heap[F]? = some (.cells cs 34)
theorem HdS.one {W0 : World} {F : Nat} {cs : Array Value} {W : World} (h : HdS W0 F cs W) (o : Obj) : HdS W0 F cs (W.alloc o) := by
  have hlt := (Array.getElem?_eq_some_iff.1 h.2).1
  exact ⟨h.1.alloc (by omega) o, ((Below.one (Below.refl _ W) o).block _ hlt).trans h.2⟩
theorem HdS.drew {W0 : World} {F : Nat} {cs : Array Value} {W : World} (h : HdS W0 F cs W) : HdS W0 F cs W.drew := ⟨Below.drew h.1, h.2⟩
/-- The draft's block and the function's. -/
def HdT (b F : Nat) (cs cf : Array Value) (W : World) : Prop := W.heap[b]? = some (.cells cs 42) ∧ W.heap[F]? = some (.cells cf 34)
theorem HdT.one {b F : Nat} {cs cf : Array Value} {W : World} (h : HdT b F cs cf W) (o : Obj) : HdT b F cs cf (W.alloc o) := ⟨((Below.one (Below.refl _ W) o).block _ (Array.getElem?_eq_some_iff.1 h.1).1).trans h.1, ((Below.one (Below.refl _ W) o).block _ (Array.getElem?_eq_some_iff.1 h.2).1).trans h.2⟩
/-- The draft's block and the row's. -/
def HdU (b R : Nat) (cs cr : Array Value) (W : World) : Prop := W.heap[b]? = some (.cells cs 42) ∧ W.heap[R]? = some (.cells cr 46)
theorem HdU.one {b R : Nat} {cs cr : Array Value} {W : World} (h : HdU b R cs cr W) (o : Obj) : HdU b R cs cr (W.alloc o) := ⟨((Below.one (Below.refl _ W) o).block _ (Array.getElem?_eq_some_iff.1 h.1).1).trans h.1, ((Below.one (Below.refl _ W) o).block _ (Array.getElem?_eq_some_iff.1 h.2).1).trans h.2⟩
def headP (nm : ByteArray) (l0 l1 : Int) (L : List Int) (pa : Option Addr) (pc : Nat) : Fn := ⟨nm, pa, pc, prs (L.drop 2), l0, l1, none, 0, []⟩
theorem headP_er (r : Rs) {L : List Int} (hL : r.ns.take 20 = L) {l0 l1 : Int} (h0 : r.ns.getD 0 0 = l0) (h1 : r.ns.getD 1 0 = l1) (pa : Option Addr) (pc : Nat) : (headP (tb r.name) l0 l1 L pa pc).er = trF (hdF r) := by
  unfold headP Fn.er trF hdF
  subst hL h0 h1
  simp only [Fn.mk.injEq, true_and, List.take_nil, and_true]
  rw [← prs_take, List.drop_take]
set_option maxRecDepth 100000 in
set_option maxHeartbeats 4000000 in
theorem addHead_any (N b : Nat) (d : Dr) (vt vf vh : Value) (gs : List Fn) (B : Nat) (w : World) (n : Nat) (_ : n ≤ 9223372036854775807) (words kind : Int) (r : Rs) (av : Option Addr) (cv : Nat) (L : List Int) (hL : r.ns.take 20 = L)
    (hN : N ≤ w.heap.size) (hd : DrAt N b d vt vf vh gs B w) (hh : d.hs.length = d.fs.length) (hr : w.ownsRow N 2 1 (.slice av L.length cv) L.length (L.flatMap thC)) (hl2 : 2 ≤ r.ns.length) (hev : r.ns.length % 2 = 0) (hns : ∀ z ∈ r.ns, I64 z) (hnm : r.name.length ≤ 140737488351232) :
    Calls Tryz.prog 28 #[.pointer (some ⟨b, 0, none⟩), .agg (rowV n words kind (tb r.name) (.slice av L.length cv))] w (DrP N b { d with hs := d.hs ++ [n], fs := d.fs ++ [hdF r] } w) := by
  obtain ⟨ha, hc, rfl⟩ := gown_form hd.oh
  obtain ⟨fa, fc, rfl⟩ := gown_form hd.of
  have hb0 := Below.one (Below.refl _ w) (.cells (rowV n words kind (tb r.name) (.slice av L.length cv)) 46)
  have D0 := hd.stay hb0
  have hr0 := own_stay hr hb0
  obtain ⟨p0, p1, p2⟩ := D0.cell
  have hb0N : Below w.heap.size w (w.alloc (.cells (rowV n words kind (tb r.name) (.slice av L.length cv)) 46)) := hb0
  have xr := heap_alloc_new w (.cells (rowV n words kind (tb r.name) (.slice av L.length cv)) 46)
  have hLl : 2 ≤ L.length ∧ L.length ≤ 20 ∧ L.length % 2 = 0 := by rw [← hL, List.length_take]; omega
  have hhl : (d.hs.take 33).length = min 33 d.hs.length := List.length_take ..
  by_cases hf : 33 ≤ d.hs.length
  · have HD0 := Hid.mk' D0
    have HB := Hid.mk' hb0N
    have hlen : (d.hs.take 33).length = 33 := by omega
    rw [hlen] at p2
    have HF := Hid.mk' hf
    have HH := Hid.mk' hh
    clear hd hr hr0 D0 hb0 hb0N xr hns hL hLl hhl hf hh
    go_enter Tryz.func28, Tryz.ntmps28
    go_wp2_with fail
    go_end0
    have h1 := HD0.out
    exact ⟨rfl, BB.of HB.out, _, _, _, _, _, (⟨h1.bk, h1.ot, h1.of, by rw [List.take_append_of_le_length HF.out]; exact h1.oh, h1.tr.full (by rw [← HH.out]; exact HF.out) _, h1.og, h1.nB, h1.lB, h1.sp, h1.di⟩ : DrAt N b { d with hs := d.hs ++ [n], fs := d.fs ++ [hdF r] } vt _ _ gs B _)⟩
  · obtain ⟨l0, l1, T, hLT⟩ : ∃ l0 l1 T, L = l0 :: l1 :: T := by
      match L, hLl.1 with
      | a :: b :: t, _ => exact ⟨a, b, t, rfl⟩
    have hg0 : r.ns.getD 0 0 = l0 := by
      have : (r.ns.take 20)[0]? = some l0 := by rw [hL, hLT]; rfl
      rw [List.getElem?_take, if_pos (by omega)] at this
      rw [List.getD_eq_getElem?_getD, this]; rfl
    have hg1 : r.ns.getD 1 0 = l1 := by
      have : (r.ns.take 20)[1]? = some l1 := by rw [hL, hLT]; rfl
      rw [List.getElem?_take, if_pos (by omega)] at this
      rw [List.getD_eq_getElem?_getD, this]; rfl
    have HER := Hid.mk' (headP_er r hL hg0 hg1)
    have hLok : ∀ z ∈ L, I64 z := fun z hz => hns z (List.mem_of_mem_take (by rw [hL]; exact hz))
    have hGO : ∀ pa pc, GOk (headP (tb r.name) l0 l1 L pa pc) := fun pa pc => ⟨by show (tb r.name).size ≤ _; rw [tb_size]; exact hnm, hLok l0 (by rw [hLT]; simp), hLok l1 (by rw [hLT]; simp), by show (prs (L.drop 2)).length ≤ 9; rw [prs_len, List.length_drop]; omega, prs_ok (fun z hz => hLok z (List.mem_of_mem_drop hz)), by show (0 : Nat) ≤ 1025; omega, fun x hx => by simp [headP] at hx⟩
    have hcl : ∀ {W : World} {M : Nat}, W.ownsRow M 2 1 (.slice av L.length cv) L.length (L.flatMap thC) → ∃ gn, av = some ⟨gn, 0, none⟩ ∧ ∀ i (h : i < L.length), W.cell? ⟨gn, i, none⟩ = some (.int .i64 L[i]) := fun {W M} hh => by
      have hat : ∀ i (h : i < L.length), (L.flatMap thC)[i]? = some (.int .i64 L[i]) := fun i h => by
        have := flatC_at (f := thC) (k := 1) (fun _ => rfl) [] L i L[i] 0 (List.getElem?_eq_getElem h) (by omega)
        rw [List.append_nil, Nat.mul_one, Nat.add_zero] at this
        rw [this]; rfl
      obtain ⟨gn, e, _, _⟩ := own_cellN hh (hat 0 (by omega))
      refine ⟨gn, e, fun i h => ?_⟩
      obtain ⟨gn', e', hc, _⟩ := own_cellN hh (hat i h)
      rw [e] at e'
      injection e' with e'
      injection e' with e'
      rw [e']; exact hc
    obtain ⟨gn, hav, hcn0⟩ := hcl hr0
    subst hav
    have n0 := hcn0 0 (by omega)
    have n1 := hcn0 1 (by omega)
    have e0 : L[0] = l0 := by simp [hLT]
    have e1 : L[1] = l1 := by simp [hLT]
    rw [e0] at n0
    rw [e1] at n1
    have c3 := cell_of_obj xr (j := 3) (v := .string (tb r.name)) rfl
    have c4 := cell_of_obj xr (j := 4) (v := .slice (some ⟨gn, 0, none⟩) L.length cv) rfl
    have hlc : ¬ ((min 33 d.hs.length : Nat) : Int) > 32 := by omega
    rw [hhl] at p2
    have hmn : min 33 d.hs.length = d.hs.length := by omega
    rw [hmn] at p2
    have hf' : d.hs.length ≤ 32 := by omega
    have hfi : decide ((32 : Int) < (d.hs.length : Int)) = false := decide_eq_false (by omega)
    have hfn : decide (32 < d.hs.length) = false := decide_eq_false (by omega)
    have q0 : (0 : Int) < (L.length : Int) := by omega
    have q1 : (1 : Int) < (L.length : Int) := by omega
    have HD0 := Hid.mk' D0
    have HR0 := Hid.mk' hr0
    have HB0N := Hid.mk' hb0N
    have HXR := Hid.mk' xr
    have HLL := Hid.mk' hLl
    have HHH := Hid.mk' hh
    have HGO := Hid.mk' hGO
    have HHL := Hid.mk' hhl
    have HCN := Hid.mk' hcn0
    have hsz : (w.alloc (.cells (rowV n words kind (tb r.name) (.slice (some ⟨gn, 0, none⟩) L.length cv)) 46)).heap.size = w.heap.size + 1 := by simp
    clear hd hr hr0 D0 hb0 hb0N xr hns hL hLl hhl hf hh hGO hcl hcn0 hlc hmn hLok hg0 hg1 hLT e0 e1 hnm hl2 hev
    generalize tb r.name = nm at *
    go_enter Tryz.func28, Tryz.ntmps28
    go_wp2_with fail
    generalize w.alloc (.cells (rowV n words kind nm (.slice (some ⟨gn, 0, none⟩) L.length cv)) 46) = W1 at *
    have hlt3 : w.heap.size < W1.heap.size := by omega
    have hltn : gn < W1.heap.size := lt_of_cell n0
    have c3' : W1.drew.cell? ⟨w.heap.size, 3, none⟩ = some (.string nm) := c3
    have c4' : W1.drew.cell? ⟨w.heap.size, 4, none⟩ = some (.slice (some ⟨gn, 0, none⟩) L.length cv) := c4
    have n0' : W1.drew.cell? ⟨gn, 0, none⟩ = some (.int .i64 l0) := n0
    have n1' : W1.drew.cell? ⟨gn, 1, none⟩ = some (.int .i64 l1) := n1
    have c3a := fun o => cell_kept_below c3' (Below.one (Below.refl _ _) o)
    have c4a := fun o => cell_kept_below c4' (Below.one (Below.refl _ _) o)
    have n0a := fun o => cell_kept_below n0' (Below.one (Below.refl _ _) o)
    have n1a := fun o => cell_kept_below n1' (Below.one (Below.refl _ _) o)
    have c3b : ∀ o, (W1.alloc o).drew.cell? ⟨w.heap.size, 3, none⟩ = some (.string nm) := fun o => cell_kept_below c3 (Below.drew (Below.one (Below.refl _ _) o))
    have c4b : ∀ o, (W1.alloc o).drew.cell? ⟨w.heap.size, 4, none⟩ = some (.slice (some ⟨gn, 0, none⟩) L.length cv) := fun o => cell_kept_below c4 (Below.drew (Below.one (Below.refl _ _) o))
    have n0b : ∀ o, (W1.alloc o).drew.cell? ⟨gn, 0, none⟩ = some (.int .i64 l0) := fun o => cell_kept_below n0 (Below.drew (Below.one (Below.refl _ _) o))
    have n1b : ∀ o, (W1.alloc o).drew.cell? ⟨gn, 1, none⟩ = some (.int .i64 l1) := fun o => cell_kept_below n1 (Below.drew (Below.one (Below.refl _ _) o))
    go_region
    have HI0 : Hid (HdI W1 (w.heap.size + 1) nm l0 l1 L 0 (.slice none 0 0) (W1.alloc (.cells #[.string nm, .slice none 0 0, .int .i64 l0, .int .i64 l1, .slice none 0 0] 34)).drew) := by
      refine HdI.drew ⟨?_, World.ownsRow_nil _ _ _ _, (Below.refl _ W1).alloc (by omega) _⟩
      have := heap_alloc_new W1 (.cells #[.string nm, .slice none 0 0, .int .i64 l0, .int .i64 l1, .slice none 0 0] 34)
      rwa [hsz] at this
    clear c3 c4 n0 n1 c3' c4' n0' n1' c3a c4a n0a n1a c3b c4b n0b n1b p0 p1 p2
    generalize (W1.alloc (.cells #[.string nm, .slice none 0 0, .int .i64 l0, .int .i64 l1, .slice none 0 0] 34)).drew = W2 at *
    obtain ⟨i0, hi, hz0, hz1, hz2⟩ := info_parts Tryz.infoP
    have HHI := Hid.mk' hi
    clear hi
    have HFL : Hid (∀ {W : World}, Below (w.heap.size + 1) W1 W → W.cell? ⟨w.heap.size, 4, none⟩ = some (.slice (some ⟨gn, 0, none⟩) L.length cv) ∧ ∀ i (h : i < L.length), W.cell? ⟨gn, i, none⟩ = some (.int .i64 L[i])) := fun {W} hb => by
      have hb' : Below W1.heap.size W1 W := by rw [hsz]; exact hb
      have k4 := cell_kept_below (cell_of_obj HXR.out (j := 4) (v := .slice (some ⟨gn, 0, none⟩) L.length cv) rfl) hb'
      exact ⟨k4, fun i h => cell_kept_below (HCN.out i h) hb'⟩
    have hL20 := HLL.out.2.1
    go_wp2_with fail
    go_loopw [5] (fun t5 wr => ∃ (j i : Nat) (vp : Value), i = 2 + 2 * j ∧ i ≤ L.length ∧ t5 = .int .i64 i ∧ HdI W1 (w.heap.size + 1) nm l0 l1 L j vp wr) (fun t5 _ => L.length - (intOf t5).toNat)
    case atStart => exact ⟨0, 2, _, rfl, HLL.out.1, rfl, HI0.out⟩
    case round =>
      obtain ⟨j, i, vp, hij, hi, rfl, hhd⟩ := hrel
      obtain ⟨r4, rn⟩ := HFL.out hhd.bf
      obtain ⟨pa, pc, rfl⟩ := gown_form hhd.op
      by_cases hlt : i < L.length
      · have hli : (i : Int) < (L.length : Int) := by omega
        have hl2 : i + 1 < L.length := by have := HLL.out.2.2; omega
        have hli2 : (i : Int) + 1 < (L.length : Int) := by omega
        have hli3 : (0 : Int) ≤ (i : Int) + 1 := by omega
        have hli4 : ((i : Int) + 1).toNat = i + 1 := by omega
        have hli5 : ¬ ((L.length : Int) ≤ (i : Int) + 1) := by omega
        have HPR : Hid ((prs (L.drop 2))[j]? = some (L[i], L[i + 1])) := by
          show _ = _
          have := prs_at (L.drop 2) j (by rw [List.length_drop]; omega)
          rw [this]
          simp only [List.getElem_drop]
          simp only [show 2 + 2 * j = i by omega, show 2 + (2 * j + 1) = i + 1 by omega]
        have y1 : ∀ w', HdS W1 (w.heap.size + 1) #[.string nm, .slice pa j pc, .int .i64 l0, .int .i64 l1, .slice none 0 0] w' → w'.cell? ⟨w.heap.size + 1, 1, none⟩ = some (.slice pa j pc) := fun w' hs => cell_of_obj hs.2 rfl
        have y4 : ∀ w', HdS W1 (w.heap.size + 1) #[.string nm, .slice pa j pc, .int .i64 l0, .int .i64 l1, .slice none 0 0] w' → w'.cell? ⟨w.heap.size, 4, none⟩ = some (.slice (some ⟨gn, 0, none⟩) L.length cv) := fun w' hs => (HFL.out hs.1).1
        have m0 : ∀ w', HdS W1 (w.heap.size + 1) #[.string nm, .slice pa j pc, .int .i64 l0, .int .i64 l1, .slice none 0 0] w' → w'.cell? ⟨gn, i, none⟩ = some (.int .i64 L[i]) := fun w' hs => ((HFL.out hs.1).2 i hlt)
        have m1 : ∀ w', HdS W1 (w.heap.size + 1) #[.string nm, .slice pa j pc, .int .i64 l0, .int .i64 l1, .slice none 0 0] w' → w'.cell? ⟨gn, i + 1, none⟩ = some (.int .i64 L[i + 1]) := fun w' hs => ((HFL.out hs.1).2 (i + 1) hl2)
        have hS0 : HdS W1 (w.heap.size + 1) #[.string nm, .slice pa j pc, .int .i64 l0, .int .i64 l1, .slice none 0 0] wr.drew := HdS.drew ⟨hhd.bf, hhd.fb⟩
        generalize L[i] = s1 at *
        generalize L[i + 1] = s2 at *
        have w1 : IntKind.i64.wrap ((i : Int) + 1) = (i : Int) + 1 := by rw [IntKind.wrap_i64]; omega
        have hov : ((wr.alloc (.cells #[.int .i64 s1, .int .i64 s2] 38)).drew).ownsRow (w.heap.size + 1) 38 2 (.slice pa j pc) j (((prs (L.drop 2)).take j).flatMap spC) := hhd.op.alloc (.cells #[.int .i64 s1, .int .i64 s2] 38)
        have hnw : ∀ jj u, ([.int .i64 s1, .int .i64 s2] : List Value)[jj]? = some u → ((wr.alloc (.cells #[.int .i64 s1, .int .i64 s2] 38)).drew).cell? ((⟨wr.heap.size, 0, none⟩ : Addr).add jj) = some u := newsT wr 38 [.int .i64 s1, .int .i64 s2]
        have hm1 : ∀ u ∈ ([.int .i64 s1, .int .i64 s2] : List Value), u.oneCell' = true := fun u hu => by simp at hu; rcases hu with rfl | rfl <;> rfl
        have hm2 : j + 1 ≤ maxLen := by unfold maxLen; omega
        have hm3 : (j + 1) * 16 ≤ 140737488355328 := by omega
        have hm4 : w.heap.size + 1 ≤ ((wr.alloc (.cells #[.int .i64 s1, .int .i64 s2] 38)).drew).heap.size := by have := hhd.bf.size; show _ ≤ (wr.alloc _).heap.size; simp; omega
        have HOV := Hid.mk' hov
        have HNW := Hid.mk' hnw
        have HM4 := Hid.mk' hm4
        have HNX : Hid (∀ (W' : World) (v' : Value), ((wr.alloc (.cells #[.int .i64 s1, .int .i64 s2] 38)).drew).grownBy W' (Value.slice pa j pc).ownBlock → W'.ownsRow (w.heap.size + 1) 38 2 v' (j + 1) (((prs (L.drop 2)).take j).flatMap spC ++ spC (s1, s2)) → HdI W1 (w.heap.size + 1) nm l0 l1 L (j + 1) v' (W'.setCell ⟨w.heap.size + 1, 1, none⟩ v') ∧ HdS W1 (w.heap.size + 1) #[.string nm, .slice pa j pc, .int .i64 l0, .int .i64 l1, .slice none 0 0] W') := fun W' v' hg ho => by
          obtain ⟨a1, a2⟩ := (hhd.drew).next (W' := W') (vp' := v') (.cells #[.int .i64 s1, .int .i64 s2] 38) hg HPR.out ho
          exact ⟨a1, ((Below.drew (hhd.bf.alloc (by have := hhd.bf.size; omega) _)).grown hg HM4.out (fun k e => own_base HOV.out k e)), a2⟩
        have HIJ := Hid.mk' hij
        clear hov hnw hm4 hhd rn hij
        go_wp2_with fail
        refine wp_region_K (fun w' => HdS W1 (w.heap.size + 1) #[.string nm, .slice pa j pc, .int .i64 l0, .int .i64 l1, .slice none 0 0] w') 17 (by kernel_rfl) ?_
        simp only [List.size_toArray, List.length_cons, List.length_nil, Nat.reduceAdd]
        refine wpAnyK_takeL (i := 0) (v := ?tv0) rfl (by kernel_rfl) (by kernel_rfl) (by kernel_rfl) (by kernel_rfl) (fun _ _ _ h => h) (by rfl) ?ty0 hS0 ?tr0
        case ty0 => (intro w' hSw; go_simp; try with_reducible rfl)
        simp only [Act.put, List.setIfInBounds_toArray, List.set_cons_zero, List.set_cons_succ]
        refine wpAnyK_takeL (i := 1) (v := ?tv1) rfl (by kernel_rfl) (by kernel_rfl) (by kernel_rfl) (by kernel_rfl) (fun _ _ _ h => h) (by rfl) ?ty1 hS0 ?tr1
        case ty1 => (intro w' hSw; go_simp; try with_reducible rfl)
        simp only [Act.put, List.setIfInBounds_toArray, List.set_cons_zero, List.set_cons_succ]
        refine wpAnyK_takeL (i := 2) (v := ?tv2) rfl (by kernel_rfl) (by kernel_rfl) (by kernel_rfl) (by kernel_rfl) (fun _ _ _ h => h) (by rfl) ?ty2 hS0 ?tr2
        case ty2 => (intro w' hSw; go_simp; try with_reducible rfl)
        simp only [Act.put, List.setIfInBounds_toArray, List.set_cons_zero, List.set_cons_succ]
        refine wpAnyK_takeL (i := 3) (v := ?tv3) rfl (by kernel_rfl) (by kernel_rfl) (by kernel_rfl) (by kernel_rfl) (fun _ _ _ h => h) (by rfl) ?ty3 hS0 ?tr3
        case ty3 => (intro w' hSw; go_simp; try with_reducible rfl)
        simp only [Act.put, List.setIfInBounds_toArray, List.set_cons_zero, List.set_cons_succ]
        refine wpAnyK_takeL (i := 4) (v := ?tv4) rfl (by kernel_rfl) (by kernel_rfl) (by kernel_rfl) (by kernel_rfl) (fun _ _ _ h => h) (by rfl) ?ty4 hS0 ?tr4
        case ty4 => (intro w' hSw; go_simp; try with_reducible rfl)
        simp only [Act.put, List.setIfInBounds_toArray, List.set_cons_zero, List.set_cons_succ]
        refine wpAnyK_takeL (i := 5) (v := ?tv5) rfl (by kernel_rfl) (by kernel_rfl) (by kernel_rfl) (by kernel_rfl) (fun _ _ _ h => h) (by rfl) ?ty5 hS0 ?tr5
        case ty5 => (intro w' hSw; go_simp; try with_reducible rfl)
        simp only [Act.put, List.setIfInBounds_toArray, List.set_cons_zero, List.set_cons_succ]
        refine wpAnyK_takeL (i := 6) (v := ?tv6) rfl (by kernel_rfl) (by kernel_rfl) (by kernel_rfl) (by kernel_rfl) (fun _ _ _ h => h) (by rfl) ?ty6 hS0 ?tr6
        case ty6 => (intro w' hSw; go_simp; try with_reducible rfl)
        simp only [Act.put, List.setIfInBounds_toArray, List.set_cons_zero, List.set_cons_succ]
        refine wpAnyK_takeL (i := 7) (v := ?tv7) rfl (by kernel_rfl) (by kernel_rfl) (by kernel_rfl) (by kernel_rfl) (fun _ _ _ h => h) (by rfl) ?ty7 hS0 ?tr7
        case ty7 => (intro w' hSw; go_simp; try with_reducible rfl)
        simp only [Act.put, List.setIfInBounds_toArray, List.set_cons_zero, List.set_cons_succ]
        refine wpAnyK_takeL (i := 8) (v := ?tv8) rfl (by kernel_rfl) (by kernel_rfl) (by kernel_rfl) (by kernel_rfl) (fun _ _ _ h => h) (by rfl) ?ty8 hS0 ?tr8
        case ty8 => (intro w' hSw; go_simp; try with_reducible rfl)
        simp only [Act.put, List.setIfInBounds_toArray, List.set_cons_zero, List.set_cons_succ]
        refine wpAnyK_takeL (i := 9) (v := ?tv9) rfl (by kernel_rfl) (by kernel_rfl) (by kernel_rfl) (by kernel_rfl) (fun _ _ _ h => h) (by rfl) ?ty9 hS0 ?tr9
        case ty9 => (intro w' hSw; go_simp; try with_reducible rfl)
        simp only [Act.put, List.setIfInBounds_toArray, List.set_cons_zero, List.set_cons_succ]
        refine wpAnyK_takeL (i := 10) (v := ?tv10) rfl (by kernel_rfl) (by kernel_rfl) (by kernel_rfl) (by kernel_rfl) (fun _ _ _ h => h) (by rfl) ?ty10 hS0 ?tr10
        case ty10 => (intro w' hSw; go_simp; try with_reducible rfl)
        simp only [Act.put, List.setIfInBounds_toArray, List.set_cons_zero, List.set_cons_succ]
        refine wpAnyK_takeL (i := 11) (v := ?tv11) rfl (by kernel_rfl) (by kernel_rfl) (by kernel_rfl) (by kernel_rfl) (fun _ _ _ h => h) (by rfl) ?ty11 hS0 ?tr11
        case ty11 => (intro w' hSw; go_simp; try with_reducible rfl)
        simp only [Act.put, List.setIfInBounds_toArray, List.set_cons_zero, List.set_cons_succ]
        refine wpAnyK_takeL (i := 12) (v := ?tv12) rfl (by kernel_rfl) (by kernel_rfl) (by kernel_rfl) (by kernel_rfl) (fun _ _ _ h => h) (by rfl) ?ty12 hS0 ?tr12
        case ty12 => (intro w' hSw; go_simp; try with_reducible rfl)
        simp only [Act.put, List.setIfInBounds_toArray, List.set_cons_zero, List.set_cons_succ]
        refine wpAnyK_takeL (i := 13) (v := ?tv13) rfl (by kernel_rfl) (by kernel_rfl) (by kernel_rfl) (by kernel_rfl) (fun _ _ _ h => h) (by rfl) ?ty13 hS0 ?tr13
        case ty13 => (intro w' hSw; go_simp; try with_reducible rfl)
        simp only [Act.put, List.setIfInBounds_toArray, List.set_cons_zero, List.set_cons_succ]
        refine wpAnyK_one (i := 14) (by kernel_rfl) rfl (fun K hK => ?_)
        go_simp
        refine hK.out _ _ (fun _ => hS0.one _) ?_
        refine wpAnyK_one (i := 15) (by kernel_rfl) rfl (fun K hK => ?_)
        refine step_append_own _ (by rfl) _ _ 31 (by rfl) (w.heap.size + 1) 38 i0 (.agg #[.int .i64 0, .int .i64 0]) 2 16 Tryz.underlying31 HHI.out hz0 hz1 hz2 rfl (by decide) _ _ _ (by rfl) HOV.out ⟨wr.heap.size, 0, none⟩ 1 1 [.int .i64 s1, .int .i64 s2] (by rfl) (by rfl) HNW.out hm1 hm2 hm3 HM4.out ?_
        intro v4 w4 own4 grow4
        obtain ⟨a4, c4, rfl⟩ := gown_form own4
        obtain ⟨H4, S4⟩ := HNX.out w4 _ grow4 own4
        have x4 := cell_of_obj S4.2 (j := 1) (v := .slice pa j pc) rfl
        have z4 := Lib.frozen_of_heap S4.2 1
        replace H4 := Hid.mk' H4
        refine hK.out _ _ (fun _ => S4) ?_
        clear hK K
        refine wpAnyK_one (i := 16) (by kernel_rfl) rfl (fun K hK => ?_)
        go_simp
        refine hK.out _ _ (fun _ => S4) ?_
        clear hK K
        refine wpAnyK_one (i := 17) (by kernel_rfl) rfl (fun K hK => ?_)
        go_simp
        refine hK.out _ _ (fun h => absurd rfl h) ?_
        refine wpAnyK_done (by kernel_rfl) ?_ _
        clear hK K y1 y4 m0 m1 x4 z4
        go_wp2_with fail
        go_roundw
        case rel => exact ⟨j + 1, i + 2, _, by have := HIJ.out; omega, by omega, by go_num, H4.out⟩
        case measure => simp [intOf]; omega
      · have hje : i = L.length := by omega
        have hjl : (prs (L.drop 2)).length = j := by rw [prs_len, List.length_drop]; omega
        have HB1 : Below W1.heap.size W1 wr := by rw [hsz]; exact hhd.bf
        have D1 := HD0.out.stay HB1
        have rb1 := (HB1.block _ (Array.getElem?_eq_some_iff.1 HXR.out).1).trans HXR.out
        have hop := hhd.op
        rw [List.take_of_length_le (by omega)] at hop
        have hG : OwnF wr N (headP nm l0 l1 L pa pc) := ⟨by
            show wr.ownsRow N 38 2 (.slice pa (prs (L.drop 2)).length pc) (prs (L.drop 2)).length ((prs (L.drop 2)).flatMap spC)
            rw [hjl]; exact own_mono hop (by have := HB0N.out.size; omega), World.ownsRow_nil _ _ _ _⟩
        have HPA : Hid (∀ f ∈ gs, ∀ k, (parV f).ownBlock = some k → (parV (headP nm l0 l1 L pa pc)).ownBlock ≠ some k) := fun f hf k hk e => by
          have h2 := own_lt (HD0.out.og f hf).1.1 k hk
          have h3 := own_base hop k (by rw [← e]; unfold headP parV; cases pa <;> rfl)
          rw [hsz] at h2
          omega
        have hfb := hhd.fb
        have hFne : ∀ k, (Value.slice fa gs.length fc).ownBlock = some k → k ≠ w.heap.size + 1 := fun k e => by have := own_lt HD0.out.of k e; omega
        obtain ⟨i1, hi1, gz0, gz1, gz2⟩ := info_parts Tryz.infoF
        obtain ⟨i2, hi2, kz0, kz1, kz2⟩ := info_parts Tryz.infoN
        have HI1 := Hid.mk' hi1
        have HI2 := Hid.mk' hi2
        have hgl : gs.length ≤ 33 := by have := D1.tr.1; omega
        have y1 : ∀ w', HdT b (w.heap.size + 1) #[vt, .slice fa gs.length fc, .slice ha d.hs.length hc] #[.string nm, .slice pa j pc, .int .i64 l0, .int .i64 l1, .slice none 0 0] w' → w'.cell? ⟨b, 1, none⟩ = some (.slice fa gs.length fc) := fun w' hs => cell_of_obj hs.1 rfl
        have q0' : ∀ w', HdT b (w.heap.size + 1) #[vt, .slice fa gs.length fc, .slice ha d.hs.length hc] #[.string nm, .slice pa j pc, .int .i64 l0, .int .i64 l1, .slice none 0 0] w' → w'.cell? ⟨w.heap.size + 1, 0, none⟩ = some (.string nm) := fun w' hs => cell_of_obj hs.2 rfl
        have q1' : ∀ w', HdT b (w.heap.size + 1) #[vt, .slice fa gs.length fc, .slice ha d.hs.length hc] #[.string nm, .slice pa j pc, .int .i64 l0, .int .i64 l1, .slice none 0 0] w' → w'.cell? ⟨w.heap.size + 1, 1, none⟩ = some (.slice pa j pc) := fun w' hs => cell_of_obj hs.2 rfl
        have q2' : ∀ w', HdT b (w.heap.size + 1) #[vt, .slice fa gs.length fc, .slice ha d.hs.length hc] #[.string nm, .slice pa j pc, .int .i64 l0, .int .i64 l1, .slice none 0 0] w' → w'.cell? ⟨w.heap.size + 1, 2, none⟩ = some (.int .i64 l0) := fun w' hs => cell_of_obj hs.2 rfl
        have q3' : ∀ w', HdT b (w.heap.size + 1) #[vt, .slice fa gs.length fc, .slice ha d.hs.length hc] #[.string nm, .slice pa j pc, .int .i64 l0, .int .i64 l1, .slice none 0 0] w' → w'.cell? ⟨w.heap.size + 1, 3, none⟩ = some (.int .i64 l1) := fun w' hs => cell_of_obj hs.2 rfl
        have q4' : ∀ w', HdT b (w.heap.size + 1) #[vt, .slice fa gs.length fc, .slice ha d.hs.length hc] #[.string nm, .slice pa j pc, .int .i64 l0, .int .i64 l1, .slice none 0 0] w' → w'.cell? ⟨w.heap.size + 1, 4, none⟩ = some (.slice none 0 0) := fun w' hs => cell_of_obj hs.2 rfl
        have hS0 : HdT b (w.heap.size + 1) #[vt, .slice fa gs.length fc, .slice ha d.hs.length hc] #[.string nm, .slice pa j pc, .int .i64 l0, .int .i64 l1, .slice none 0 0] wr.drew := ⟨by have := D1.bk; rw [HHL.out, show min 33 d.hs.length = d.hs.length by omega] at this; exact this, hfb⟩
        have HOV : Hid ((wr.drew.alloc (.cells #[.string nm, .slice pa j pc, .int .i64 l0, .int .i64 l1, .slice none 0 0] 34)).ownsRow N 34 5 (.slice fa gs.length fc) gs.length (gs.flatMap Fn.cells)) := D1.of.alloc (.cells #[.string nm, .slice pa j pc, .int .i64 l0, .int .i64 l1, .slice none 0 0] 34)
        have HNW : Hid (∀ jj u, ([.string nm, .slice pa j pc, .int .i64 l0, .int .i64 l1, .slice none 0 0] : List Value)[jj]? = some u → (wr.drew.alloc (.cells #[.string nm, .slice pa j pc, .int .i64 l0, .int .i64 l1, .slice none 0 0] 34)).cell? ((⟨wr.heap.size, 0, none⟩ : Addr).add jj) = some u) := newsT wr.drew 34 [.string nm, .slice pa j pc, .int .i64 l0, .int .i64 l1, .slice none 0 0]
        have hm1 : ∀ u ∈ ([.string nm, .slice pa j pc, .int .i64 l0, .int .i64 l1, .slice none 0 0] : List Value), u.oneCell' = true := fun u hu => by simp at hu; rcases hu with rfl | rfl | rfl | rfl | rfl <;> rfl
        have hm2 : gs.length + 1 ≤ maxLen := by unfold maxLen; omega
        have hm3 : (gs.length + 1) * 80 ≤ 140737488355328 := by omega
        have HM4 : Hid (N ≤ (wr.drew.alloc (.cells #[.string nm, .slice pa j pc, .int .i64 l0, .int .i64 l1, .slice none 0 0] 34)).heap.size) := (by have h1 := HB0N.out.size; have h2 := HB1.size; show N ≤ (wr.alloc _).heap.size; simp; omega : N ≤ _)
        have HEQ : Hid ((headP nm l0 l1 L pa pc).cells = [.string nm, .slice pa j pc, .int .i64 l0, .int .i64 l1, .slice none 0 0]) := (by unfold headP Fn.cells; simp only; rw [hjl]; rfl : _ = _)
        have HFN : Hid (∀ (W' : World) (v' : Value), (wr.drew.alloc (.cells #[.string nm, .slice pa j pc, .int .i64 l0, .int .i64 l1, .slice none 0 0] 34)).grownBy W' (Value.slice fa gs.length fc).ownBlock → W'.ownsRow N 34 5 v' (gs.length + 1) (gs.flatMap Fn.cells ++ [.string nm, .slice pa j pc, .int .i64 l0, .int .i64 l1, .slice none 0 0]) →
            DrAt N b { d with fs := d.fs ++ [hdF r] } vt v' (.slice ha (d.hs.take 33).length hc) (gs ++ [headP nm l0 l1 L pa pc]) W'.heap.size (W'.setCell ⟨b, 1, none⟩ v') ∧ W'.heap[b]? = some (.cells #[vt, .slice fa gs.length fc, .slice ha (d.hs.take 33).length hc] 42) ∧ BB N b wr.drew (W'.setCell ⟨b, 1, none⟩ v') ∧ HdT b (w.heap.size + 1) #[vt, .slice fa gs.length fc, .slice ha d.hs.length hc] #[.string nm, .slice pa j pc, .int .i64 l0, .int .i64 l1, .slice none 0 0] W' ∧ (W'.setCell ⟨b, 1, none⟩ v').heap[w.heap.size]? = some (.cells (rowV n words kind nm (.slice (some ⟨gn, 0, none⟩) L.length cv)) 46)) := fun W' v' hg ho => by
          have D1d := D1.stay (Below.drew (Below.refl _ wr))
          obtain ⟨a1, a2, a3⟩ := D1d.func (by rw [← HHH.out]; exact hf') (g := headP nm l0 l1 L pa pc) (f := hdF r) ⟨own_stay hG.1 (Below.drew (Below.refl _ wr)), own_stay hG.2 (Below.drew (Below.refl _ wr))⟩ (HGO.out pa pc) (HER.out pa pc) rfl rfl rfl HPA.out _ hg (by rw [HEQ.out]; exact ho)
          refine ⟨a1, a2, a3, ⟨by rw [HHL.out, show min 33 d.hs.length = d.hs.length by omega] at a2; exact a2, ?_⟩, ?_⟩
          · refine (hg.block _ (by have := (Array.getElem?_eq_some_iff.1 hfb).1; show _ < (wr.alloc _).heap.size; simp; omega) (fun e => hFne _ e.symm rfl)).trans ?_
            exact ((Below.one (Below.refl _ wr) _).block _ (Array.getElem?_eq_some_iff.1 hfb).1).trans hfb
          · have r1 := ((Below.one (Below.refl _ wr) (.cells #[.string nm, .slice pa j pc, .int .i64 l0, .int .i64 l1, .slice none 0 0] 34)).block _ (Array.getElem?_eq_some_iff.1 rb1).1).trans rb1
            have r2 := grown_other HOV.out hg r1 (by decide)
            exact (Below.heap_setCell _ _ _ _ (fun e => by simp only at e; rw [← e] at a2; rw [a2] at r2; cases r2)).trans r2
        have HBW := Hid.mk' (Below.on HB0N.out HB1)
        have HSZ := Hid.mk' hsz
        clear rn hje hjl D1 rb1 hop hG hfb hFne hi1 hi2 hhd HB1 hij HFL HI0 HLL HCN HXR HD0 HR0 q0 q1
        go_wp2_with fail
        refine wp_region_K (fun w' => HdT b (w.heap.size + 1) #[vt, .slice fa gs.length fc, .slice ha d.hs.length hc] #[.string nm, .slice pa j pc, .int .i64 l0, .int .i64 l1, .slice none 0 0] w') 12 (by kernel_rfl) ?_
        simp only [List.size_toArray, List.length_cons, List.length_nil, Nat.reduceAdd]
        refine wpAnyK_takeL (i := 0) (v := ?sv0) rfl (by kernel_rfl) (by kernel_rfl) (by kernel_rfl) (by kernel_rfl) (fun _ _ _ h => h) (by rfl) ?sy0 hS0 ?sr0
        case sy0 => (intro w' hSw; go_simp; try with_reducible rfl)
        simp only [Act.put, List.setIfInBounds_toArray, List.set_cons_zero, List.set_cons_succ]
        refine wpAnyK_takeL (i := 1) (v := ?sv1) rfl (by kernel_rfl) (by kernel_rfl) (by kernel_rfl) (by kernel_rfl) (fun _ _ _ h => h) (by rfl) ?sy1 hS0 ?sr1
        case sy1 => (intro w' hSw; go_simp; try with_reducible rfl)
        simp only [Act.put, List.setIfInBounds_toArray, List.set_cons_zero, List.set_cons_succ]
        refine wpAnyK_takeL (i := 2) (v := ?sv2) rfl (by kernel_rfl) (by kernel_rfl) (by kernel_rfl) (by kernel_rfl) (fun _ _ _ h => h) (by rfl) ?sy2 hS0 ?sr2
        case sy2 => (intro w' hSw; go_simp; try with_reducible rfl)
        simp only [Act.put, List.setIfInBounds_toArray, List.set_cons_zero, List.set_cons_succ]
        refine wpAnyK_takeL (i := 3) (v := ?sv3) rfl (by kernel_rfl) (by kernel_rfl) (by kernel_rfl) (by kernel_rfl) (fun _ _ _ h => h) (by rfl) ?sy3 hS0 ?sr3
        case sy3 => (intro w' hSw; go_simp; try with_reducible rfl)
        simp only [Act.put, List.setIfInBounds_toArray, List.set_cons_zero, List.set_cons_succ]
        refine wpAnyK_takeL (i := 4) (v := ?sv4) rfl (by kernel_rfl) (by kernel_rfl) (by kernel_rfl) (by kernel_rfl) (fun _ _ _ h => h) (by rfl) ?sy4 hS0 ?sr4
        case sy4 => (intro w' hSw; go_simp; try with_reducible rfl)
        simp only [Act.put, List.setIfInBounds_toArray, List.set_cons_zero, List.set_cons_succ]
        refine wpAnyK_takeL (i := 5) (v := ?sv5) rfl (by kernel_rfl) (by kernel_rfl) (by kernel_rfl) (by kernel_rfl) (fun _ _ _ h => h) (by rfl) ?sy5 hS0 ?sr5
        case sy5 => (intro w' hSw; go_simp; try with_reducible rfl)
        simp only [Act.put, List.setIfInBounds_toArray, List.set_cons_zero, List.set_cons_succ]
        refine wpAnyK_takeL (i := 6) (v := ?sv6) rfl (by kernel_rfl) (by kernel_rfl) (by kernel_rfl) (by kernel_rfl) (fun _ _ _ h => h) (by rfl) ?sy6 hS0 ?sr6
        case sy6 => (intro w' hSw; go_simp; try with_reducible rfl)
        simp only [Act.put, List.setIfInBounds_toArray, List.set_cons_zero, List.set_cons_succ]
        refine wpAnyK_one (i := 7) (by kernel_rfl) rfl (fun K hK => ?_)
        go_simp
        refine hK.out _ _ (fun _ => hS0.one _) ?_
        refine wpAnyK_one (i := 8) (by kernel_rfl) rfl (fun K hK => ?_)
        refine step_append_own _ (by rfl) _ _ 23 (by rfl) N 34 i1 (.agg #[.string ⟨#[]⟩, .slice none 0 0, .int .i64 0, .int .i64 0, .slice none 0 0]) 5 80 Tryz.underlying23 HI1.out gz0 gz1 gz2 rfl (by decide) _ _ _ (by rfl) HOV.out ⟨wr.heap.size, 0, none⟩ 1 1 [.string nm, .slice pa j pc, .int .i64 l0, .int .i64 l1, .slice none 0 0] (by rfl) (by rfl) HNW.out hm1 hm2 hm3 HM4.out ?_
        intro v4 w4 own4 grow4
        obtain ⟨a4, c4, rfl⟩ := gown_form own4
        obtain ⟨D4, b4, B4, S4, R4⟩ := HFN.out w4 _ grow4 own4
        have x4 := cell_of_obj b4 (j := 1) (v := .slice fa gs.length fc) rfl
        have z4 := Lib.frozen_of_heap b4 1
        replace D4 := Hid.mk' D4
        replace B4 := Hid.mk' B4
        refine hK.out _ _ (fun _ => S4) ?_
        clear hK K
        refine wpAnyK_one (i := 9) (by kernel_rfl) rfl (fun K hK => ?_)
        go_simp
        refine hK.out _ _ (fun _ => S4) ?_
        clear hK K
        refine wpAnyK_one (i := 10) (by kernel_rfl) rfl (fun K hK => ?_)
        go_simp
        refine hK.out _ _ (fun _ => S4) ?_
        clear hK K
        refine wpAnyK_one (i := 11) (by kernel_rfl) rfl (fun K hK => ?_)
        go_simp
        refine hK.out _ _ (fun _ => S4) ?_
        clear hK K
        refine wpAnyK_one (i := 12) (by kernel_rfl) rfl (fun K hK => ?_)
        go_simp
        refine hK.out _ _ (fun h => absurd rfl h) ?_
        refine wpAnyK_done (by kernel_rfl) ?_ _
        have hhs : (d.hs.take 33).length = d.hs.length := by rw [HHL.out]; omega
        have hbk5 := D4.out.bk
        rw [hhs] at hbk5
        have y8 : ∀ w', HdU b w.heap.size #[vt, .slice a4 (gs.length + 1) c4, .slice ha d.hs.length hc] (rowV n words kind nm (.slice (some ⟨gn, 0, none⟩) L.length cv)) w' → w'.cell? ⟨b, 2, none⟩ = some (.slice ha d.hs.length hc) := fun w' hs => cell_of_obj hs.1 rfl
        have q8 : ∀ w', HdU b w.heap.size #[vt, .slice a4 (gs.length + 1) c4, .slice ha d.hs.length hc] (rowV n words kind nm (.slice (some ⟨gn, 0, none⟩) L.length cv)) w' → w'.cell? ⟨w.heap.size, 0, none⟩ = some (.int .i64 (n : Int)) := fun w' hs => cell_of_obj hs.2 rfl
        have HBW5 : Hid (BB N b w (w4.setCell ⟨b, 1, none⟩ (.slice a4 (gs.length + 1) c4))) := BB.on HBW.out (BB.on (Below.drew (Below.refl _ wr)) B4.out)
        clear hK K y1 q0' q1' q2' q3' q4' x4 z4 S4 b4 own4 grow4 hS0 HFN HOV HNW HM4
        generalize w4.setCell ⟨b, 1, none⟩ (.slice a4 (gs.length + 1) c4) = W5 at *
        have hS8 : HdU b w.heap.size #[vt, .slice a4 (gs.length + 1) c4, .slice ha d.hs.length hc] (rowV n words kind nm (.slice (some ⟨gn, 0, none⟩) L.length cv)) W5.drew := ⟨hbk5, R4⟩
        have HOV8 : Hid ((W5.drew.alloc (.cells #[.int .i64 (n : Int)] 3)).ownsRow N 3 1 (.slice ha d.hs.length hc) d.hs.length ((d.hs.take 33).map hC)) := (by have := D4.out.oh.alloc (.cells #[.int .i64 (n : Int)] 3); simp only [hhs] at this; exact this : (W5.alloc (.cells #[.int .i64 (n : Int)] 3)).ownsRow N 3 1 (.slice ha d.hs.length hc) d.hs.length ((d.hs.take 33).map hC))
        have HNW8 : Hid (∀ jj u, ([.int .i64 (n : Int)] : List Value)[jj]? = some u → (W5.drew.alloc (.cells #[.int .i64 (n : Int)] 3)).cell? ((⟨W5.heap.size, 0, none⟩ : Addr).add jj) = some u) := newsT W5.drew 3 [.int .i64 (n : Int)]
        have hn1 : ∀ u ∈ ([.int .i64 (n : Int)] : List Value), u.oneCell' = true := fun u hu => by simp at hu; subst hu; rfl
        have hn2 : d.hs.length + 1 ≤ maxLen := by unfold maxLen; omega
        have hn3 : (d.hs.length + 1) * 8 ≤ 140737488355328 := by omega
        have HN4 : Hid (N ≤ (W5.drew.alloc (.cells #[.int .i64 (n : Int)] 3)).heap.size) := (by have h1 := HBW5.out.size; show N ≤ (W5.alloc _).heap.size; simp; omega : N ≤ _)
        have HLN : Hid (∀ (W' : World) (v' : Value), (W5.drew.alloc (.cells #[.int .i64 (n : Int)] 3)).grownBy W' (Value.slice ha d.hs.length hc).ownBlock → W'.ownsRow N 3 1 v' (d.hs.length + 1) ((d.hs.take 33).map hC ++ [.int .i64 (n : Int)]) →
            DrP N b { d with hs := d.hs ++ [n], fs := d.fs ++ [hdF r] } w (.returned (.tuple #[])) (W'.setCell ⟨b, 2, none⟩ v') ∧ HdU b w.heap.size #[vt, .slice a4 (gs.length + 1) c4, .slice ha d.hs.length hc] (rowV n words kind nm (.slice (some ⟨gn, 0, none⟩) L.length cv)) W') := fun W' v' hg ho => by
          have D5d := D4.out.stay (Below.drew (Below.refl _ W5))
          obtain ⟨a1, a2, a3⟩ := D5d.line (n := n) (vh' := v') hf' (.cells #[.int .i64 (n : Int)] 3) (by rw [hhs]; exact hg) (by rw [hhs]; exact ho)
          refine ⟨⟨rfl, HBW5.out.trans (BB.on (Below.drew (Below.refl _ W5)) a3), _, _, _, _, _, a1⟩, by rw [hhs] at a2; exact a2, ?_⟩
          have r1 := ((Below.one (Below.refl _ W5) (.cells #[.int .i64 (n : Int)] 3)).block _ (Array.getElem?_eq_some_iff.1 R4).1).trans R4
          exact grown_other HOV8.out hg r1 (by decide)
        clear D4 B4 hbk5 hhs HHL HBW R4
        go_wp2_with fail
        refine wp_region_K (fun w' => HdU b w.heap.size #[vt, .slice a4 (gs.length + 1) c4, .slice ha d.hs.length hc] (rowV n words kind nm (.slice (some ⟨gn, 0, none⟩) L.length cv)) w') 11 (by kernel_rfl) ?_
        simp only [List.size_toArray, List.length_cons, List.length_nil, Nat.reduceAdd]
        refine wpAnyK_takeL (i := 0) (v := ?rv0) rfl (by kernel_rfl) (by kernel_rfl) (by kernel_rfl) (by kernel_rfl) (fun _ _ _ h => h) (by rfl) ?ry0 hS8 ?rr0
        case ry0 => (intro w' hSw; go_simp; try with_reducible rfl)
        simp only [Act.put, List.setIfInBounds_toArray, List.set_cons_zero, List.set_cons_succ]
        refine wpAnyK_takeL (i := 1) (v := ?rv1) rfl (by kernel_rfl) (by kernel_rfl) (by kernel_rfl) (by kernel_rfl) (fun _ _ _ h => h) (by rfl) ?ry1 hS8 ?rr1
        case ry1 => (intro w' hSw; go_simp; try with_reducible rfl)
        simp only [Act.put, List.setIfInBounds_toArray, List.set_cons_zero, List.set_cons_succ]
        refine wpAnyK_takeL (i := 2) (v := ?rv2) rfl (by kernel_rfl) (by kernel_rfl) (by kernel_rfl) (by kernel_rfl) (fun _ _ _ h => h) (by rfl) ?ry2 hS8 ?rr2
        case ry2 => (intro w' hSw; go_simp; try with_reducible rfl)
        simp only [Act.put, List.setIfInBounds_toArray, List.set_cons_zero, List.set_cons_succ]
        refine wpAnyK_takeL (i := 3) (v := ?rv3) rfl (by kernel_rfl) (by kernel_rfl) (by kernel_rfl) (by kernel_rfl) (fun _ _ _ h => h) (by rfl) ?ry3 hS8 ?rr3
        case ry3 => (intro w' hSw; go_simp; try with_reducible rfl)
        simp only [Act.put, List.setIfInBounds_toArray, List.set_cons_zero, List.set_cons_succ]
        refine wpAnyK_takeL (i := 4) (v := ?rv4) rfl (by kernel_rfl) (by kernel_rfl) (by kernel_rfl) (by kernel_rfl) (fun _ _ _ h => h) (by rfl) ?ry4 hS8 ?rr4
        case ry4 => (intro w' hSw; go_simp; try with_reducible rfl)
        simp only [Act.put, List.setIfInBounds_toArray, List.set_cons_zero, List.set_cons_succ]
        refine wpAnyK_takeL (i := 5) (v := ?rv5) rfl (by kernel_rfl) (by kernel_rfl) (by kernel_rfl) (by kernel_rfl) (fun _ _ _ h => h) (by rfl) ?ry5 hS8 ?rr5
        case ry5 => (intro w' hSw; go_simp; try with_reducible rfl)
        simp only [Act.put, List.setIfInBounds_toArray, List.set_cons_zero, List.set_cons_succ]
        refine wpAnyK_takeL (i := 6) (v := ?rv6) rfl (by kernel_rfl) (by kernel_rfl) (by kernel_rfl) (by kernel_rfl) (fun _ _ _ h => h) (by rfl) ?ry6 hS8 ?rr6
        case ry6 => (intro w' hSw; go_simp; try with_reducible rfl)
        simp only [Act.put, List.setIfInBounds_toArray, List.set_cons_zero, List.set_cons_succ]
        refine wpAnyK_one (i := 7) (by kernel_rfl) rfl (fun K hK => ?_)
        go_simp
        refine hK.out _ _ (fun _ => hS8.one _) ?_
        refine wpAnyK_one (i := 8) (by kernel_rfl) rfl (fun K hK => ?_)
        refine step_append_own _ (by rfl) _ _ 40 (by rfl) N 3 i2 (.int .i64 0) 1 8 Tryz.underlying40 HI2.out kz0 kz1 kz2 rfl (by decide) _ _ _ (by rfl) HOV8.out ⟨W5.heap.size, 0, none⟩ 1 1 [.int .i64 (n : Int)] (by rfl) (by rfl) HNW8.out hn1 hn2 hn3 HN4.out ?_
        intro v6 w6 own6 grow6
        obtain ⟨a6, c6, rfl⟩ := gown_form own6
        obtain ⟨D6, S6⟩ := HLN.out w6 _ grow6 own6
        have x6 := cell_of_obj S6.1 (j := 2) (v := .slice ha d.hs.length hc) rfl
        have z6 := Lib.frozen_of_heap S6.1 2
        replace D6 := Hid.mk' D6
        refine hK.out _ _ (fun _ => S6) ?_
        clear hK K
        refine wpAnyK_one (i := 9) (by kernel_rfl) rfl (fun K hK => ?_)
        go_simp
        refine hK.out _ _ (fun _ => S6) ?_
        clear hK K
        refine wpAnyK_one (i := 10) (by kernel_rfl) rfl (fun K hK => ?_)
        go_simp
        refine hK.out _ _ (fun _ => S6) ?_
        clear hK K
        refine wpAnyK_one (i := 11) (by kernel_rfl) rfl (fun K hK => ?_)
        go_simp
        refine hK.out _ _ (fun h => absurd rfl h) ?_
        refine wpAnyK_done (by kernel_rfl) ?_ _
        clear hK K y8 q8 x6 z6 S6 own6 grow6 hS8
        go_wp2_with fail
        go_end0
        exact D6.out
end Go.Proofs.YtboidkmnkicoeaaGreatDoor
