/- loops.dominates: climbs the tree. -/
import Derived.Test.YtgiokognngllcaaDoorTc
import Derived.Test.YtgiokognngllcaaDoorGgan
namespace Go.Proofs.YtgiokognngllcaaDoor
open Go.RowKit Go.Sort

/-- Where the climb stands. -/
def Clm (l : List Is) (v u : Nat) (z : Int) : Prop := (z = -1 ∧ ¬ Dm l v u) ∨ ∃ k : Nat, z = (k : Int) ∧ Rch l k ∧ (Dm l v u ↔ Dm l v k)
noncomputable def clmM (l : List Is) (z : Int) : Nat := if z < 0 then 0 else dmC l z.toNat + 1
theorem lst_i' {W : World} {a : Option Addr} {l : List Int} (h : Lst W a (l.map iV)) {j : Nat} {z : Int} (hj : l[j]? = some z) : ∃ b o, a = some ⟨b, o, none⟩ ∧ W.cell? ⟨b, o + j, none⟩ = some (.int .i64 z) := h j (iV z) (by rw [List.getElem?_map, hj]; rfl)
theorem clm_step {l : List Is} {ts : List Int} (hT : IsT l ts) (h0 : ts ≠ []) {v u k : Nat} (hk : Rch l k) (hd : Dm l v u ↔ Dm l v k) (hn : k ≠ v) : ∃ z, ts[k]? = some z ∧ Clm l v u z ∧ clmM l z < clmM l (k : Int) := by
  rcases hT with ⟨_, e⟩ | ⟨h1, h2, h3, h4⟩
  · exact absurd e h0
  · rcases h4 k (hk.lt h1) with ⟨e, hno⟩ | ⟨r, e, hi⟩
    · refine ⟨-1, e, .inl ⟨rfl, fun h => ?_⟩, ?_⟩
      · have hk0 : k = 0 := Classical.byContradiction fun h0 => hno ⟨hk, h0⟩
        have := hd.1 h
        rw [hk0] at this
        exact hn (by rw [hk0]; exact (dm_at_zero.1 this).symm)
      · unfold clmM
        rw [if_pos (by omega), if_neg (by omega)]
        omega
    · refine ⟨r, e, .inr ⟨r, rfl, hi.1.left, ?_⟩, ?_⟩
      · rw [hd, hi.mem]
        exact ⟨fun h => h.resolve_left (Ne.symm hn), .inr⟩
      · unfold clmM
        rw [if_neg (by omega), if_neg (by omega)]
        have := hi.count h1
        simp only [Int.toNat_natCast]
        omega
set_option maxRecDepth 100000 in
set_option maxHeartbeats 2000000 in
theorem ldom_any (l : List Is) (ts : List Int) (a : Option Addr) (c u v : Nat) (w : World) (hT : IsT l ts) (h0 : ts ≠ []) (hu : Rch l u) (h : Lst w a (ts.map iV)) : Calls Tryd.prog 37 #[.slice a ts.length c, .int .i64 (v : Int), .int .i64 (u : Int)] w fun e w' => e = .returned (.bool (pD (Dm l v u))) ∧ Below w.heap.size w w' := by
  have HL := Hid.mk' h
  have HT := Hid.mk' (fun k (hk : Rch l k) hd (hn : k ≠ v) => clm_step (v := v) (u := u) hT h0 hk hd hn)
  have HTL : Hid (∀ k z, ts[k]? = some z → k < ts.length) := fun k z e => (List.getElem?_eq_some_iff.1 e).1
  have HC0 : Hid (Clm l v u (u : Int)) := .inr ⟨u, rfl, hu, Iff.rfl⟩
  clear h hT h0 hu
  go_enter Tryd.func37, Tryd.ntmps37
  go_wp2_with fail
  go_loopw [2] (fun t2 wr => ∃ z : Int, t2 = .int .i64 z ∧ Clm l v u z ∧ wr = w) (fun t2 _ => clmM l (intOf t2))
  case atStart => exact ⟨_, rfl, HC0.out, rfl⟩
  case round =>
    obtain ⟨z, rfl, hc, hw⟩ := hrel
    subst hw
    rcases hc with ⟨rfl, hno⟩ | ⟨k, rfl, hk, hd⟩
    · have hq : ((-1 : Int) == (v : Int)) = false := beq_no (by omega)
      have HNO := Hid.mk' hno
      clear hno
      go_wp2_with fail
      go_ret
      exact ⟨ret_bool (pD_f.2 HNO.out).symm, Below.refl _ _⟩
    · have hk0 : (0 : Int) ≤ (k : Int) := by omega
      by_cases e : k = v
      · have hq : ((k : Int) != (v : Int)) = false := bne_no (by omega)
        have hq2 : ((k : Int) == (v : Int)) = true := by rw [e]; simp
        have HD : Hid (pD (Dm l v u) = true) := pD_t.2 (hd.2 (by rw [← e]; exact Dm.refl hk))
        clear hd hk e
        go_wp2_with fail
        go_ret
        exact ⟨ret_bool HD.out.symm, Below.refl _ _⟩
      · have hq : ((k : Int) != (v : Int)) = true := bne_of (by omega)
        obtain ⟨z, hz, hcz, hm⟩ := HT.out k hk hd e
        have hkl := HTL.out k z hz
        have hkli : (k : Int) < (ts.length : Int) := by omega
        obtain ⟨b, o, rfl, c0⟩ := lst_i' HL.out hz
        have HCZ := Hid.mk' hcz
        have HM := Hid.mk' hm
        clear hz hcz hm hd hk e
        go_wp2_with fail
        go_roundw
        case rel => exact ⟨_, rfl, HCZ.out, trivial⟩
        case measure => exact HM.out
end Go.Proofs.YtgiokognngllcaaDoor
