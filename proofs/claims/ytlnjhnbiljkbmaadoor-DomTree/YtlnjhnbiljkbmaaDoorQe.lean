/- How many bits are set: the arithmetic under math/bits.OnesCount64. -/
import Derived.Test.YtlnjhnbiljkbmaaDoorJb
namespace Go.Proofs.YtlnjhnbiljkbmaaDoor

/-- A number by its bytes, the lowest first. -/
def nb : List Nat → Nat
  | [] => 0
  | b :: r => b + 256 * nb r
theorem and_byte (a b c d : Nat) (hb : b < 256) (hd : d < 256) : (b + 256 * a) &&& (d + 256 * c) = (b &&& d) + 256 * (a &&& c) := by
  have hbd : b &&& d < 256 := Nat.lt_of_le_of_lt Nat.and_le_left hb
  rw [Nat.add_comm b, Nat.add_comm d, Nat.add_comm (b &&& d)]
  refine Nat.eq_of_testBit_eq fun i => ?_
  rw [Nat.testBit_and, show (256 : Nat) = 2 ^ 8 from rfl, Nat.testBit_two_pow_mul_add _ hb, Nat.testBit_two_pow_mul_add _ hd, Nat.testBit_two_pow_mul_add _ hbd, Nat.testBit_and, Nat.testBit_and]
  split <;> rfl
theorem d1 : ∀ b : Fin 256, ∀ t : Fin 2, ((b.val / 2 + 128 * t.val) &&& 85) = (b.val / 2 &&& 85) := by decide +kernel
theorem d2 : ∀ b : Fin 256, ∀ t : Fin 4, ((b.val / 4 + 64 * t.val) &&& 51) = (b.val / 4 &&& 51) := by decide +kernel
theorem d3 : ∀ b : Fin 69, ∀ t : Fin 5, ((b.val / 16 + 16 * t.val + b.val) &&& 15) = ((b.val / 16 + b.val) &&& 15) := by decide +kernel
def o1 (b : Nat) : Nat := (b / 2 &&& 85) + (b &&& 85)
def o2 (b : Nat) : Nat := (b / 4 &&& 51) + (b &&& 51)
def o3 (b : Nat) : Nat := (b / 16 + b) &&& 15
theorem o1_lt : ∀ b : Fin 256, o1 b.val < 256 := by decide +kernel
theorem o2_lt : ∀ b : Fin 256, o2 (o1 b.val) < 69 ∧ o2 (o1 b.val) % 16 < 5 ∧ o2 (o1 b.val) / 16 < 5 := by decide +kernel
theorem o3_eq : ∀ b : Fin 256, o3 (o2 (o1 b.val)) = Lib.popAux 8 b.val := by decide +kernel
theorem pop8_le : ∀ b : Fin 256, Lib.popAux 8 b.val ≤ 8 := by decide +kernel
theorem nb_o1 : ∀ bs : List Nat, (∀ b ∈ bs, b < 256) → (nb bs / 2 &&& nb (bs.map fun _ => 85)) + (nb bs &&& nb (bs.map fun _ => 85)) = nb (bs.map o1)
  | [], _ => by simp [nb]
  | b :: r, h => by
    have ih := nb_o1 r fun x hx => h x (by simp [hx])
    have hb := h b (by simp)
    simp only [List.map_cons, nb]
    generalize nb (r.map fun _ => 85) = M at *
    generalize nb (r.map o1) = S at *
    generalize nb r = R at *
    have e1 : (b + 256 * R) / 2 = (b / 2 + 128 * (R % 2)) + 256 * (R / 2) := by omega
    rw [e1, and_byte _ _ _ _ (by omega) (by omega), and_byte _ _ _ _ hb (by omega)]
    have := d1 ⟨b, hb⟩ ⟨R % 2, by omega⟩
    simp only at this
    rw [this]
    unfold o1
    omega
theorem nb_o2 : ∀ bs : List Nat, (∀ b ∈ bs, b < 256) → (nb bs / 4 &&& nb (bs.map fun _ => 51)) + (nb bs &&& nb (bs.map fun _ => 51)) = nb (bs.map o2)
  | [], _ => by simp [nb]
  | b :: r, h => by
    have ih := nb_o2 r fun x hx => h x (by simp [hx])
    have hb := h b (by simp)
    simp only [List.map_cons, nb]
    generalize nb (r.map fun _ => 51) = M at *
    generalize nb (r.map o2) = S at *
    generalize nb r = R at *
    have e1 : (b + 256 * R) / 4 = (b / 4 + 64 * (R % 4)) + 256 * (R / 4) := by omega
    rw [e1, and_byte _ _ _ _ (by omega) (by omega), and_byte _ _ _ _ hb (by omega)]
    have := d2 ⟨b, hb⟩ ⟨R % 4, by omega⟩
    simp only at this
    rw [this]
    unfold o2
    omega
theorem nb_o3 : ∀ bs : List Nat, (∀ b ∈ bs, b < 69 ∧ b % 16 < 5 ∧ b / 16 < 5) → (nb bs / 16 + nb bs) &&& nb (bs.map fun _ => 15) = nb (bs.map o3) ∧ nb bs % 16 < 5
  | [], _ => by simp [nb]
  | b :: r, h => by
    obtain ⟨ih, iq⟩ := nb_o3 r fun x hx => h x (by simp [hx])
    obtain ⟨hb, hm, hd⟩ := h b (by simp)
    simp only [List.map_cons, nb]
    generalize nb (r.map fun _ => 15) = M at *
    generalize nb (r.map o3) = S at *
    generalize nb r = R at *
    refine ⟨?_, by omega⟩
    have e1 : (b + 256 * R) / 16 + (b + 256 * R) = (b / 16 + 16 * (R % 16) + b) + 256 * (R / 16 + R) := by omega
    rw [e1, and_byte _ _ _ _ (by omega) (by omega)]
    have := d3 ⟨b, hb⟩ ⟨R % 16, by omega⟩
    simp only at this
    rw [this, ih]
    rfl
theorem pop_split : ∀ (k f b R : Nat), b < 2 ^ k → Lib.popAux (k + f) (b + 2 ^ k * R) = Lib.popAux k b + Lib.popAux f R
  | 0, f, b, R, h => by
    have : b = 0 := by simpa using h
    subst this
    simp [Lib.popAux]
  | k + 1, f, b, R, h => by
    rw [show k + 1 + f = (k + f) + 1 by omega]
    rw [Nat.pow_succ] at h
    have ih := pop_split k f (b / 2) R (by omega)
    have e0 : ∀ f x, Lib.popAux (f + 1) x = x % 2 + Lib.popAux f (x / 2) := fun _ _ => rfl
    rw [e0, e0]
    have e1 : (b + 2 ^ (k + 1) * R) / 2 = b / 2 + 2 ^ k * R := by
      rw [Nat.pow_succ, show 2 ^ k * 2 * R = 2 * (2 ^ k * R) by rw [Nat.mul_right_comm, Nat.mul_comm]]
      omega
    have e2 : (b + 2 ^ (k + 1) * R) % 2 = b % 2 := by
      rw [Nat.pow_succ, show 2 ^ k * 2 * R = 2 * (2 ^ k * R) by rw [Nat.mul_right_comm, Nat.mul_comm]]
      omega
    rw [e1, e2, ih]
    omega
theorem pop_nb : ∀ bs : List Nat, (∀ b ∈ bs, b < 256) → Lib.popAux (8 * bs.length) (nb bs) = (bs.map (Lib.popAux 8)).sum
  | [], _ => by simp [Lib.popAux]
  | b :: r, h => by
    have ih := pop_nb r fun x hx => h x (by simp [hx])
    have := pop_split 8 (8 * r.length) b (nb r) (h b (by simp))
    simp only [List.length_cons, List.map_cons, List.sum_cons, nb]
    rw [show 8 * (r.length + 1) = 8 + 8 * r.length by omega]
    rw [ih] at this
    exact this
/-- A word is eight bytes. -/
theorem word_nb (x : Nat) (h : x < 18446744073709551616) : ∃ b0 b1 b2 b3 b4 b5 b6 b7, x = nb [b0, b1, b2, b3, b4, b5, b6, b7] ∧ b0 < 256 ∧ b1 < 256 ∧ b2 < 256 ∧ b3 < 256 ∧ b4 < 256 ∧ b5 < 256 ∧ b6 < 256 ∧ b7 < 256 := by
  have key : ∀ q : Nat, ∃ b r, q = b + 256 * r ∧ b < 256 ∧ r = q / 256 := fun q => ⟨q % 256, q / 256, (Nat.mod_add_div q 256).symm, Nat.mod_lt _ (by decide), rfl⟩
  obtain ⟨b0, q1, e0, l0, h0⟩ := key x
  obtain ⟨b1, q2, e1, l1, h1⟩ := key q1
  obtain ⟨b2, q3, e2, l2, h2⟩ := key q2
  obtain ⟨b3, q4, e3, l3, h3⟩ := key q3
  obtain ⟨b4, q5, e4, l4, h4⟩ := key q4
  obtain ⟨b5, q6, e5, l5, h5⟩ := key q5
  obtain ⟨b6, q7, e6, l6, h6⟩ := key q6
  have l7 : q7 < 256 := by clear key; omega
  clear key h0 h1 h2 h3 h4 h5 h6
  refine ⟨b0, b1, b2, b3, b4, b5, b6, q7, ?_, l0, l1, l2, l3, l4, l5, l6, l7⟩
  rw [e0, e1, e2, e3, e4, e5, e6]
  simp only [nb, Nat.mul_zero, Nat.add_zero]
theorem div_a (y p A : Nat) (m : Nat) (hm : 0 < m) (hy : y = p + m * A) (hp : p < m) : y / m = A := by
  subst hy
  rw [Nat.add_mul_div_left _ _ hm, Nat.div_eq_of_lt hp, Nat.zero_add]
/-- What the last three steps make of eight small bytes. -/
theorem fold_nb (p0 p1 p2 p3 p4 p5 p6 p7 : Nat) (h : p0 ≤ 8 ∧ p1 ≤ 8 ∧ p2 ≤ 8 ∧ p3 ≤ 8 ∧ p4 ≤ 8 ∧ p5 ≤ 8 ∧ p6 ≤ 8 ∧ p7 ≤ 8) (y y1 y2 y3 : Nat) (hy : y = nb [p0, p1, p2, p3, p4, p5, p6, p7]) (h1 : y1 = y + y / 256) (h2 : y2 = y1 + y1 / 65536) (h3 : y3 = y2 + y2 / 4294967296) : y3 % 128 = p0 + p1 + p2 + p3 + p4 + p5 + p6 + p7 ∧ y3 < 9223372036854775808 := by
  simp only [nb, Nat.mul_zero, Nat.add_zero] at hy
  obtain ⟨A6, a6⟩ : ∃ A, A = p6 + 256 * p7 := ⟨_, rfl⟩
  rw [← a6] at hy
  obtain ⟨A5, a5⟩ : ∃ A, A = p5 + 256 * A6 := ⟨_, rfl⟩
  rw [← a5] at hy
  obtain ⟨A4, a4⟩ : ∃ A, A = p4 + 256 * A5 := ⟨_, rfl⟩
  rw [← a4] at hy
  obtain ⟨A3, a3⟩ : ∃ A, A = p3 + 256 * A4 := ⟨_, rfl⟩
  rw [← a3] at hy
  obtain ⟨A2, a2⟩ : ∃ A, A = p2 + 256 * A3 := ⟨_, rfl⟩
  rw [← a2] at hy
  obtain ⟨A1, a1⟩ : ∃ A, A = p1 + 256 * A2 := ⟨_, rfl⟩
  rw [← a1] at hy
  rw [div_a y p0 A1 256 (by decide) hy (by omega)] at h1
  rw [div_a y1 ((p0 + p1) + 256 * (p1 + p2)) (A2 + A3) 65536 (by decide) (by omega) (by omega)] at h2
  rw [div_a y2 ((p0 + p1) + (p2 + p3) + 256 * ((p1 + p2) + (p3 + p4)) + 65536 * ((p2 + p3) + (p4 + p5) + 256 * ((p3 + p4) + (p5 + p6)))) (A4 + A5 + (A6 + p7)) 4294967296 (by decide) (by omega) (by omega)] at h3
  refine ⟨?_, by omega⟩
  have e : y3 = p0 + p1 + p2 + p3 + p4 + p5 + p6 + p7 + 128 * (2 * ((p1 + p2) + (p3 + p4)) + 512 * ((p2 + p3) + (p4 + p5) + 256 * ((p3 + p4) + (p5 + p6))) + 33554432 * (A4 + A5 + (A6 + p7)) + 2 * A5 + 2 * A6 + 2 * p7) := by omega
  rw [e, Nat.add_mul_mod_self_left]
  exact Nat.mod_eq_of_lt (by omega)
theorem nb_le (m : Nat) : ∀ bs : List Nat, (∀ b ∈ bs, b ≤ m) → nb bs ≤ m * nb (bs.map fun _ => 1)
  | [], _ => by simp [nb]
  | b :: r, h => by
    have ih := nb_le m r fun x hx => h x (by simp [hx])
    have := h b (by simp)
    simp only [List.map_cons, nb]
    rw [Nat.mul_add, Nat.mul_one, Nat.mul_left_comm]
    omega
/-- The whole. -/
theorem ones_64 (x y1 y2 y3 y4 y5 y6 : Nat) (hx : x < 18446744073709551616) (h1 : y1 = (x / 2 &&& 6148914691236517205) + (x &&& 6148914691236517205)) (h2 : y2 = (y1 / 4 &&& 3689348814741910323) + (y1 &&& 3689348814741910323)) (h3 : y3 = (y2 / 16 + y2) &&& 1085102592571150095) (h4 : y4 = y3 + y3 / 256) (h5 : y5 = y4 + y4 / 65536) (h6 : y6 = y5 + y5 / 4294967296) :
    y6 % 128 = Lib.onesCount x ∧ y1 < 18446744073709551616 ∧ y2 < 5000000000000000000 ∧ y3 < 5000000000000000000 ∧ y4 < 9000000000000000000 ∧ y5 < 9000000000000000000 ∧ y6 < 9223372036854775808 := by
  obtain ⟨b0, b1, b2, b3, b4, b5, b6, b7, e, q0, q1, q2, q3, q4, q5, q6, q7⟩ := word_nb x hx
  have hb : ∀ b ∈ [b0, b1, b2, b3, b4, b5, b6, b7], b < 256 := by
    intro b hb
    simp only [List.mem_cons, List.not_mem_nil, or_false] at hb
    rcases hb with rfl | rfl | rfl | rfl | rfl | rfl | rfl | rfl <;> assumption
  have k1 := nb_o1 _ hb
  have hb1 : ∀ b ∈ [b0, b1, b2, b3, b4, b5, b6, b7].map o1, b < 256 := by
    intro c hc
    obtain ⟨b, hm, rfl⟩ := List.mem_map.1 hc
    exact o1_lt ⟨b, hb b hm⟩
  have k2 := nb_o2 _ hb1
  have hb2 : ∀ b ∈ ([b0, b1, b2, b3, b4, b5, b6, b7].map o1).map o2, b < 69 ∧ b % 16 < 5 ∧ b / 16 < 5 := by
    intro c hc
    obtain ⟨d, hd, rfl⟩ := List.mem_map.1 hc
    obtain ⟨b, hm, rfl⟩ := List.mem_map.1 hd
    exact o2_lt ⟨b, hb b hm⟩
  have k3 := (nb_o3 _ hb2).1
  have g1 : nb ([b0, b1, b2, b3, b4, b5, b6, b7].map fun _ => 85) = 6148914691236517205 := by simp only [List.map_cons, List.map_nil, nb]
  have g2 : nb (([b0, b1, b2, b3, b4, b5, b6, b7].map o1).map fun _ => 51) = 3689348814741910323 := by simp only [List.map_cons, List.map_nil, nb]
  have g3 : nb ((([b0, b1, b2, b3, b4, b5, b6, b7].map o1).map o2).map fun _ => 15) = 1085102592571150095 := by simp only [List.map_cons, List.map_nil, nb]
  rw [g1, ← e] at k1
  rw [g2] at k2
  rw [g3] at k3
  clear g1 g2 g3
  have v1 : y1 = nb ([b0, b1, b2, b3, b4, b5, b6, b7].map o1) := h1.trans k1
  rw [← v1] at k2
  have v2 : y2 = nb (([b0, b1, b2, b3, b4, b5, b6, b7].map o1).map o2) := h2.trans k2
  rw [← v2] at k3
  have v3 : y3 = nb ((([b0, b1, b2, b3, b4, b5, b6, b7].map o1).map o2).map o3) := h3.trans k3
  have p := pop_nb _ hb
  rw [← e] at p
  have w0 := fun (b : Nat) (h : b < 256) => o1_lt ⟨b, h⟩
  have w2 := fun (b : Nat) (h : b < 256) => o2_lt ⟨b, h⟩
  have w3 := fun (b : Nat) (h : b < 256) => o3_eq ⟨b, h⟩
  have w4 := fun (b : Nat) (h : b < 256) => pop8_le ⟨b, h⟩
  have u1 : ∀ c0 c1 c2 c3 c4 c5 c6 c7 : Nat, nb ([c0, c1, c2, c3, c4, c5, c6, c7].map fun _ => 1) = 72340172838076673 := fun _ _ _ _ _ _ _ _ => by simp only [List.map_cons, List.map_nil, nb]
  have c1 : y1 < 18446744073709551616 := by
    have := nb_le 255 _ fun b h => Nat.le_of_lt_succ (hb1 b h)
    rw [← v1] at this
    simp only [List.map_cons, List.map_nil] at this
    have k := u1 b0 b1 b2 b3 b4 b5 b6 b7
    simp only [List.map_cons, List.map_nil] at k
    rw [k] at this
    clear k v1 v2 v3 k1 k2 k3 p
    omega
  have c2 : y2 < 5000000000000000000 := by
    have := nb_le 68 _ fun b h => Nat.le_of_lt_succ (hb2 b h).1
    rw [← v2] at this
    simp only [List.map_cons, List.map_nil] at this
    have k := u1 b0 b1 b2 b3 b4 b5 b6 b7
    simp only [List.map_cons, List.map_nil] at k
    rw [k] at this
    clear k v1 v2 v3 k1 k2 k3 p
    omega
  have e3 : (([b0, b1, b2, b3, b4, b5, b6, b7].map o1).map o2).map o3 = [b0, b1, b2, b3, b4, b5, b6, b7].map (Lib.popAux 8) := by
    rw [List.map_map, List.map_map]
    exact List.map_congr_left fun b h => o3_eq ⟨b, hb b h⟩
  rw [e3] at v3
  have m8 : ∀ b ∈ [b0, b1, b2, b3, b4, b5, b6, b7].map (Lib.popAux 8), b ≤ 8 := by
    intro c hc
    obtain ⟨b, hm, rfl⟩ := List.mem_map.1 hc
    exact pop8_le ⟨b, hb b hm⟩
  have c3 : y3 < 1000000000000000000 := by
    have := nb_le 8 _ m8
    rw [← v3] at this
    simp only [List.map_cons, List.map_nil] at this
    have k := u1 b0 b1 b2 b3 b4 b5 b6 b7
    simp only [List.map_cons, List.map_nil] at k
    rw [k] at this
    clear k v1 v2 v3 k1 k2 k3 p m8 e3
    omega
  clear v1 v2 k1 k2 k3 e3 hb1 hb2 u1 h1 h2 h3 e
  simp only [List.map_cons, List.map_nil] at v3 p m8
  generalize Lib.popAux 8 b0 = r0 at *
  generalize Lib.popAux 8 b1 = r1 at *
  generalize Lib.popAux 8 b2 = r2 at *
  generalize Lib.popAux 8 b3 = r3 at *
  generalize Lib.popAux 8 b4 = r4 at *
  generalize Lib.popAux 8 b5 = r5 at *
  generalize Lib.popAux 8 b6 = r6 at *
  generalize Lib.popAux 8 b7 = r7 at *
  obtain ⟨f1, f2⟩ := fold_nb r0 r1 r2 r3 r4 r5 r6 r7 ⟨m8 _ (by simp), m8 _ (by simp), m8 _ (by simp), m8 _ (by simp), m8 _ (by simp), m8 _ (by simp), m8 _ (by simp), m8 _ (by simp)⟩ y3 y4 y5 y6 v3 h4 h5 h6
  simp only [List.length_cons, List.length_nil, List.sum_cons, List.sum_nil] at p
  unfold Lib.onesCount
  have p' : Lib.popAux 64 x = r0 + (r1 + (r2 + (r3 + (r4 + (r5 + (r6 + (r7 + 0))))))) := p
  clear p m8 v3
  refine ⟨by rw [f1, p']; omega, c1, c2, by omega, by omega, by omega, f2⟩
end Go.Proofs.YtlnjhnbiljkbmaaDoor
