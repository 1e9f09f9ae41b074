/- Another value in one field of an instruction changes that field's bits alone, plainly. No condition. -/
import Derived.Test.YtbbfjlheaaalkaaDoorEa
namespace Go.Proofs.YtbbfjlheaaalkaaDoor.Enc

theorem wrap32 (n : Nat) (h : n < 4294967296) : IntKind.u32.wrap (n : Int) = n := by
  show (let m := (n : Int) % (2 ^ 32 : Int); if IntKind.u32.signed && m ≥ (2 ^ 31 : Int) then m - (2 ^ 32 : Int) else m) = n
  simp only [IntKind.signed, Bool.false_and, Bool.false_eq_true, if_false]
  omega
theorem xor32 (x y : Int) : bits .xor .u32 x y = ((BitVec.ofInt 32 x ^^^ BitVec.ofInt 32 y).toNat : Int) := by
  show IntKind.u32.wrap ((BitVec.ofInt 32 x ^^^ BitVec.ofInt 32 y).toNat : Int) = _
  exact wrap32 _ (BitVec.isLt _)
theorem andNot32 (b : BitVec 32) (m : Int) : bits .andNot .u32 (b.toNat : Int) m = ((b &&& ~~~(BitVec.ofInt 32 m)).toNat : Int) := by
  show IntKind.u32.wrap ((BitVec.ofInt 32 (b.toNat : Int) &&& ~~~(BitVec.ofInt 32 m)).toNat : Int) = _
  rw [BitVec.ofInt_natCast, BitVec.ofNat_toNat, BitVec.setWidth_eq]
  exact wrap32 _ (BitVec.isLt _)
theorem only_between (x y lo hi : Nat) (h1 : x % 2 ^ lo = y % 2 ^ lo) (h2 : x / 2 ^ hi = y / 2 ^ hi) (m : BitVec 32) (hm : ∀ i, lo ≤ i → i < hi → i < 32 → m.getLsbD i = true) :
    (BitVec.ofNat 32 x ^^^ BitVec.ofNat 32 y) &&& ~~~m = 0#32 := by
  apply BitVec.eq_of_getLsbD_eq
  intro i hi32
  rw [BitVec.getLsbD_and, BitVec.getLsbD_xor, BitVec.getLsbD_not, BitVec.getLsbD_ofNat, BitVec.getLsbD_ofNat]
  simp only [hi32, decide_true, Bool.true_and, BitVec.getLsbD_zero]
  rcases Nat.lt_or_ge i lo with hl | hl
  · have e := congrArg (fun n => n.testBit i) h1
    simp only [Nat.testBit_mod_two_pow, hl, decide_true, Bool.true_and] at e
    rw [e]; simp
  · rcases Nat.lt_or_ge i hi with hh | hh
    · rw [hm i hl hh hi32]; simp
    · have e := congrArg (fun n => n.testBit (i - hi)) h2
      simp only [Nat.testBit_div_two_pow] at e
      rw [show i - hi + hi = i by omega] at e
      rw [e]; simp
theorem field_bits {x y : Int} (hx : 0 ≤ x) (hy : 0 ≤ y) (lo hi : Nat) (h1 : x % (2 ^ lo : Int) = y % (2 ^ lo : Int)) (h2 : x / (2 ^ hi : Int) = y / (2 ^ hi : Int)) (m : Int) (hm : ∀ i, lo ≤ i → i < hi → i < 32 → (BitVec.ofInt 32 m).getLsbD i = true) :
    bits .andNot .u32 (bits .xor .u32 x y) m = 0 := by
  obtain ⟨n, rfl⟩ := Int.eq_ofNat_of_zero_le hx
  obtain ⟨k, rfl⟩ := Int.eq_ofNat_of_zero_le hy
  rw [xor32, andNot32, BitVec.ofInt_natCast, BitVec.ofInt_natCast, only_between n k lo hi (by exact_mod_cast h1) (by exact_mod_cast h2) _ hm]
  rfl
theorem field_op {c d : PC} (hc : mayP c = true) (hd : mayP d = true) (ha : d.a = c.a) (hb : d.b = c.b) (hi : d.imm = c.imm) : bits .andNot .u32 (bits .xor .u32 (wordP c) (wordP d)) 4278190080 = 0 := by
  have w1 := wordP_range (within hc)
  have w2 := wordP_range (within hd)
  have k1 := within hc
  have k2 := within hd
  obtain ⟨o1, a1, b1, i1⟩ := k1
  obtain ⟨o2, a2, b2, i2⟩ := k2
  have u1 := up_range i1
  refine field_bits w1.1 w2.1 24 32 ?_ ?_ _ ?_
  · unfold wordP; rw [ha, hb, hi]; omega
  · unfold wordP; rw [ha, hb, hi]; omega
  · intro i h1 h2 _
    have : i = 24 ∨ i = 25 ∨ i = 26 ∨ i = 27 ∨ i = 28 ∨ i = 29 ∨ i = 30 ∨ i = 31 := by omega
    rcases this with rfl | rfl | rfl | rfl | rfl | rfl | rfl | rfl <;> decide
theorem field_a {c d : PC} (hc : mayP c = true) (hd : mayP d = true) (ho : d.op = c.op) (hb : d.b = c.b) (hi : d.imm = c.imm) : bits .andNot .u32 (bits .xor .u32 (wordP c) (wordP d)) 15728640 = 0 := by
  have w1 := wordP_range (within hc)
  have w2 := wordP_range (within hd)
  obtain ⟨o1, a1, b1, i1⟩ := within hc
  obtain ⟨o2, a2, b2, i2⟩ := within hd
  have u1 := up_range i1
  refine field_bits w1.1 w2.1 20 24 ?_ ?_ _ ?_
  · unfold wordP; rw [ho, hb, hi]; omega
  · unfold wordP; rw [ho, hb, hi]; omega
  · intro i h1 h2 _
    have : i = 20 ∨ i = 21 ∨ i = 22 ∨ i = 23 := by omega
    rcases this with rfl | rfl | rfl | rfl <;> decide
theorem field_b {c d : PC} (hc : mayP c = true) (hd : mayP d = true) (ho : d.op = c.op) (ha : d.a = c.a) (hi : d.imm = c.imm) : bits .andNot .u32 (bits .xor .u32 (wordP c) (wordP d)) 983040 = 0 := by
  have w1 := wordP_range (within hc)
  have w2 := wordP_range (within hd)
  obtain ⟨o1, a1, b1, i1⟩ := within hc
  obtain ⟨o2, a2, b2, i2⟩ := within hd
  have u1 := up_range i1
  refine field_bits w1.1 w2.1 16 20 ?_ ?_ _ ?_
  · unfold wordP; rw [ho, ha, hi]; omega
  · unfold wordP; rw [ho, ha, hi]; omega
  · intro i h1 h2 _
    have : i = 16 ∨ i = 17 ∨ i = 18 ∨ i = 19 := by omega
    rcases this with rfl | rfl | rfl | rfl <;> decide
theorem field_i {c d : PC} (hc : mayP c = true) (hd : mayP d = true) (ho : d.op = c.op) (ha : d.a = c.a) (hb : d.b = c.b) : bits .andNot .u32 (bits .xor .u32 (wordP c) (wordP d)) 65535 = 0 := by
  have w1 := wordP_range (within hc)
  have w2 := wordP_range (within hd)
  obtain ⟨o1, a1, b1, i1⟩ := within hc
  obtain ⟨o2, a2, b2, i2⟩ := within hd
  have u1 := up_range i1
  have u2 := up_range i2
  refine field_bits w1.1 w2.1 0 16 ?_ ?_ _ ?_
  · unfold wordP; rw [ho, ha, hb]; omega
  · unfold wordP; rw [ho, ha, hb]; omega
  · intro i h1 h2 _
    have : i = 0 ∨ i = 1 ∨ i = 2 ∨ i = 3 ∨ i = 4 ∨ i = 5 ∨ i = 6 ∨ i = 7 ∨ i = 8 ∨ i = 9 ∨ i = 10 ∨ i = 11 ∨ i = 12 ∨ i = 13 ∨ i = 14 ∨ i = 15 := by omega
    rcases this with rfl | rfl | rfl | rfl | rfl | rfl | rfl | rfl | rfl | rfl | rfl | rfl | rfl | rfl | rfl | rfl <;> decide
end Go.Proofs.YtbbfjlheaaalkaaDoor.Enc
