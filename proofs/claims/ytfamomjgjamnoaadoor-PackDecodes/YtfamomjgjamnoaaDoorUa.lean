/- The document's own: numbers put behind bytes. -/
import Derived.Test.YtfamomjgjamnoaaDoorKf
import Derived.Test.YtfamomjgjamnoaaDoorDd
namespace Go.Proofs.YtfamomjgjamnoaaDoor
open Go.RowKit Go.Sort

theorem byte_z (z : Int) : (.int .u8 (z % 256) : Value) = u8V (UInt8.ofNat (u64N z)) := by
  rw [← byte_of, u64N_cast]
  congr 1
  omega
theorem w1B_eq (z : Int) : w1B z = [UInt8.ofNat (u64N z)] := by simp [w1B, leB]
theorem ob_new {N : Nat} {W : World} (l : Bt) (hN : N ≤ W.heap.size) (hl : l.length ≤ 1000000) : Ob N l (.slice (some ⟨W.heap.size, 0, none⟩) l.length l.length) (W.alloc (.cells (u8C l).toArray 5)) :=
  ⟨by rw [u8C_len, Nat.mul_one], .inr ⟨W.heap.size, l.length, (u8C l).toArray, rfl, hN, heap_alloc_new W _, Nat.le_refl _, by unfold maxLen; omega, by simp [u8C_len], by rw [List.toList_toArray, Nat.mul_one, List.take_of_length_le (by rw [u8C_len]; exact Nat.le_refl _)]⟩⟩
theorem Gr.on_one {N : Nat} {W W' : World} {o : Obj} (hN : N ≤ W.heap.size) (h : Gr N (W.alloc o) W') : Gr N W W' := (Gr.stay hN (Below.one (Below.refl _ W) o)).on h
/-- One byte more. -/
theorem app_one {N : Nat} {acc : Bt} {v : Value} {W : World} (z : Int) (h : Ob N acc v W) (hN : N ≤ W.heap.size) (hl : acc.length ≤ 90000000) :
    ∃ v' W', (Builtin.append_ #[27, 27] 27 #[v, .slice (some ⟨W.heap.size, 0, none⟩) 1 1]).run Tryd.prog (W.alloc (.cells #[.int .u8 (z % 256)] 5)) = .ok v' W' ∧ (Ob N (acc ++ w1B z) v' W' ∧ Gr N W W') := by
  rw [byte_z, w1B_eq]
  obtain ⟨v', W', h1, h2, h3⟩ := ob_more (l := [UInt8.ofNat (u64N z)]) (own_stay h (Below.one (Below.refl _ W) (.cells #[u8V (UInt8.ofNat (u64N z))] 5))) (by simp; omega) (by simp; omega) 27 (some ⟨W.heap.size, 0, none⟩) 1 (by simp) (fun a e => by cases e; exact newsT W 5 [u8V (UInt8.ofNat (u64N z))])
  exact ⟨v', W', h1, h2, h3.on_one hN⟩
/-- Four bytes more. -/
theorem app_four {N : Nat} {acc : Bt} {v : Value} {W : World} (a b c d : Int) (h : Ob N acc v W) (hN : N ≤ W.heap.size) (hl : acc.length ≤ 90000000) :
    ∃ v' W', (Builtin.append_ #[27, 27] 27 #[v, .slice (some ⟨W.heap.size, 0, none⟩) 4 4]).run Tryd.prog (W.alloc (.cells #[.int .u8 (a % 256), .int .u8 (b % 256), .int .u8 (c % 256), .int .u8 (d % 256)] 5)) = .ok v' W' ∧ (Ob N (acc ++ (w1B a ++ w1B b ++ w1B c ++ w1B d)) v' W' ∧ Gr N W W') := by
  rw [byte_z, byte_z, byte_z, byte_z, w1B_eq, w1B_eq, w1B_eq, w1B_eq]
  obtain ⟨v', W', h1, h2, h3⟩ := ob_more (l := [UInt8.ofNat (u64N a), UInt8.ofNat (u64N b), UInt8.ofNat (u64N c), UInt8.ofNat (u64N d)]) (own_stay h (Below.one (Below.refl _ W) (.cells #[u8V (UInt8.ofNat (u64N a)), u8V (UInt8.ofNat (u64N b)), u8V (UInt8.ofNat (u64N c)), u8V (UInt8.ofNat (u64N d))] 5))) (by simp; omega) (by simp; omega) 27 (some ⟨W.heap.size, 0, none⟩) 4 (by simp) (fun a' e => by cases e; exact newsT W 5 [u8V (UInt8.ofNat (u64N a)), u8V (UInt8.ofNat (u64N b)), u8V (UInt8.ofNat (u64N c)), u8V (UInt8.ofNat (u64N d))])
  exact ⟨v', W', h1, h2, h3.on_one hN⟩
def NuP (N : Nat) (acc : Bt) (w : World) (e : Ending) (w' : World) : Prop := ∃ v, e = .returned v ∧ Ob N acc v w' ∧ Gr N w w'
set_option maxRecDepth 100000 in
set_option maxHeartbeats 2000000 in
theorem rnumb_any (N : Nat) (acc : Bt) (v : Value) (w : World) (k n : Nat) (h : Ob N acc v w) (hN : N ≤ w.heap.size) (hk : k ≤ 8) (hn : n < 18446744073709551616) (hl : acc.length ≤ 90000000) :
    Calls Tryd.prog 19 #[v, .int .u64 (n : Int), .int .i64 (k : Int)] w (NuP N (acc ++ leB k n) w) := by
  have HW := Hid.mk' h
  clear h
  go_enter Tryd.func19, Tryd.ntmps19
  go_wp2_with fail
  go_loopw [0, 1, 7] (fun t0 t1 t7 wr => ∃ (j : Nat), j ≤ k ∧ t7 = .int .i64 j ∧ t1 = .int .u64 ((n / 256 ^ j : Nat) : Int) ∧ Ob N (acc ++ leB j n) t0 wr ∧ Gr N w wr) (fun _ _ t7 _ => k - (intOf t7).toNat)
  case atStart => exact ⟨0, Nat.zero_le _, rfl, by simp, by simpa [leB] using HW.out, Gr.refl _ _⟩
  case round =>
    obtain ⟨j, hj, rfl, rfl, h1, hkp⟩ := hrel
    clear HW
    by_cases hlt : j < k
    · have hli : (j : Int) < (k : Int) := by omega
      have HE := Hid.mk' (leB_succ j n)
      have hq : n / 256 ^ j < 18446744073709551616 := Nat.lt_of_le_of_lt (Nat.div_le_self _ _) hn
      have HQ : Hid (n / 256 ^ (j + 1) = n / 256 ^ j / 256) := (by rw [Nat.pow_succ, Nat.div_div_eq_div_mul] : _ = _)
      obtain ⟨q, hqe⟩ : ∃ q, n / 256 ^ j = q := ⟨_, rfl⟩
      rw [hqe] at hq HE HQ ⊢
      obtain ⟨A, hA⟩ : ∃ A, acc ++ leB j n = A := ⟨_, rfl⟩
      have hAl : A.length ≤ 90000008 := by rw [← hA, List.length_append, leB_len]; omega
      rw [hA] at h1
      have HA := Hid.mk' hA
      obtain ⟨a1, c1, rfl⟩ := gown_form h1
      have hNr : N ≤ wr.heap.size := Nat.le_trans hN hkp.b.size
      have hbo := Below.one (Below.refl _ wr) (.cells #[.int .u8 ((q : Int) % 256)] 5)
      obtain ⟨B, hB⟩ : ∃ B, A ++ [UInt8.ofNat q] = B := ⟨_, rfl⟩
      have HB := Hid.mk' hB
      have HAP : Hid (∃ v' W'', (Builtin.append_ #[27, 27] 27 #[.slice a1 A.length c1, .slice (some ⟨wr.heap.size, 0, none⟩) 1 1]).run Tryd.prog (wr.alloc (.cells #[.int .u8 ((q : Int) % 256)] 5)) = .ok v' W'' ∧ (Ob N B v' W'' ∧ Gr N (wr.alloc (.cells #[.int .u8 ((q : Int) % 256)] 5)) W'')) := by
        rw [byte_of, ← hB]
        exact ob_more (l := [UInt8.ofNat q]) (own_stay h1 (Below.one (Below.refl _ wr) _)) (by simp; omega) (by simp; omega) _ _ _ (by simp) (fun a e => by cases e; exact newsT wr 5 [u8V (UInt8.ofNat q)])
      have HG := Hid.mk' hkp
      clear h1 hbo hA hqe hB hkp
      go_wp2_with (at_builtin; refine wpl_app rfl _ _ 27 27 _ _ rfl rfl rfl HAP.out ?_; rintro v2 W2 ⟨ho2, hg2⟩; obtain ⟨a2, c2, rfl⟩ := gown_form ho2)
      go_roundw
      case rel => exact ⟨j + 1, by omega, by go_num, by rw [HQ.out]; rfl, by rw [HE.out, ← List.append_assoc, HA.out, HB.out]; exact ho2, HG.out.on (hg2.on_one hNr)⟩
      case measure => simp [intOf]; omega
    · have hje : j = k := by omega
      subst hje
      obtain ⟨a1, c1, rfl⟩ := gown_form h1
      obtain ⟨A, hA⟩ : ∃ A, acc ++ leB j n = A := ⟨_, rfl⟩
      rw [hA] at h1 ⊢
      go_wp2_with fail
      go_ret
      exact ⟨_, rfl, hA ▸ h1, hkp⟩
end Go.Proofs.YtfamomjgjamnoaaDoor
