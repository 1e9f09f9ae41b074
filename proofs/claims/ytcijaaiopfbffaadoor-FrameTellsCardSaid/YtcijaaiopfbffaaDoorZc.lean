/- Words of sets, bit by bit; which lists of temps they are. No condition. -/
import Derived.Test.YtcijaaiopfbffaaDoorZb
import Derived.Laws.Bits64b
import Derived.Lib.TrailingZeros
namespace Go.Proofs.YtcijaaiopfbffaaDoor.Live
open Go.Proofs.YtcijaaiopfbffaaDoor.Graph

def andN (a b : Nat) : Nat := a ^^^ (a &&& b)
theorem andN_bit (a b i : Nat) : (andN a b).testBit i = (a.testBit i && !b.testBit i) := by
  unfold andN
  rw [Nat.testBit_xor, Nat.testBit_and]
  cases a.testBit i <;> cases b.testBit i <;> rfl
theorem andN_lt {a : Nat} (b : Nat) (h : a < w64) : andN a b < w64 := Nat.xor_lt_two_pow (n := 64) h (Nat.and_lt_two_pow' _ _ h)
where Nat.and_lt_two_pow' (a b : Nat) (h : a < w64) : a &&& b < 2 ^ 64 := Nat.lt_of_le_of_lt Nat.and_le_left h
theorem bits_andNot (a b : Nat) (ha : a < w64) (hb : b < w64) : bits .andNot .u64 (a : Int) (b : Int) = ((andN a b : Nat) : Int) := by
  unfold w64 at ha hb
  have h1 : (BitVec.ofInt 64 (a : Int)).toNat = a := by
    rw [BitVec.ofInt_natCast, BitVec.toNat_ofNat]; exact Nat.mod_eq_of_lt (by omega)
  have h2 : (BitVec.ofInt 64 (b : Int)).toNat = b := by
    rw [BitVec.ofInt_natCast, BitVec.toNat_ofNat]; exact Nat.mod_eq_of_lt (by omega)
  have h3 : a &&& (2 ^ 64 - 1 - b) = andN a b := by
    apply Nat.eq_of_testBit_eq
    intro i
    rw [Nat.testBit_and, andN_bit, show 2 ^ 64 - 1 - b = 2 ^ 64 - (b + 1) by omega, Nat.testBit_two_pow_sub_succ (by omega)]
    by_cases hi : i < 64
    · simp [hi]
    · have : a.testBit i = false := Nat.testBit_lt_two_pow (Nat.lt_of_lt_of_le ha (Nat.pow_le_pow_right (n := 2) (by omega) (by omega : 64 ≤ i)))
      simp [this]
  have h4 := andN_lt b (a := a) ha
  unfold w64 at h4
  show IntKind.u64.wrap ((BitVec.ofInt 64 (a : Int) &&& ~~~(BitVec.ofInt 64 (b : Int))).toNat : Int) = _
  rw [BitVec.toNat_and, BitVec.toNat_not, h1, h2, h3, IntKind.wrap_u64]
  omega
/-- The bits of a word, rising. -/
def bitsOf (v : Nat) : List Nat := (List.range 64).filter fun i => v.testBit i
theorem filter_least {p : Nat → Bool} {k : Nat} : ∀ {l : List Nat}, l.Pairwise (· < ·) → k ∈ l → p k = true → (∀ i, i ∈ l → i < k → p i = false) → l.filter p = k :: l.filter fun i => p i && decide (i ≠ k)
  | [], _, h, _, _ => absurd h List.not_mem_nil
  | a :: r, hs, hk, hp, hl => by
    obtain ⟨h1, h2⟩ := List.pairwise_cons.1 hs
    by_cases e : a = k
    · subst e
      have : r.filter (fun i => p i && decide (i ≠ a)) = r.filter p := by
        refine List.filter_congr fun i hi => ?_
        have := h1 i hi
        have : i ≠ a := by omega
        simp [this]
      rw [List.filter_cons_of_pos hp, List.filter_cons_of_neg (by simp), this]
    · have hr : k ∈ r := by
        rcases List.mem_cons.1 hk with h | h
        · exact absurd h.symm e
        · exact h
      have ha := hl a (List.mem_cons_self ..) (h1 k hr)
      rw [List.filter_cons_of_neg (by rw [ha]; simp), List.filter_cons_of_neg (by rw [ha]; simp)]
      exact filter_least h2 hr hp fun i hi => hl i (List.mem_cons_of_mem _ hi)
theorem bits_zero : bitsOf 0 = [] := by decide
theorem pow_bit {k m : Nat} {i : Nat} : (2 ^ k * (2 * m + 1)).testBit i = (decide (i = k) || (decide (k < i) && m.testBit (i - k - 1))) := by
  rw [Nat.mul_comm, Nat.testBit_mul_two_pow]
  by_cases h1 : k ≤ i
  · by_cases h2 : i = k
    · subst h2; simp [Nat.testBit_zero]
    · obtain ⟨j, rfl⟩ : ∃ j, i = k + (j + 1) := ⟨i - k - 1, by omega⟩
      have e1 : k + (j + 1) - k = j + 1 := by omega
      have e2 : k + (j + 1) - k - 1 = j := by omega
      have e3 : k < k + (j + 1) := by omega
      rw [e1, show j + 1 - 1 = j by omega, Nat.testBit_succ, show (2 * m + 1) / 2 = m by omega]
      simp [h1, e3]
  · have h2 : ¬ i = k := by omega
    have h3 : ¬ k < i := by omega
    simp [h1, h2, h3]
theorem pred_bit {k m : Nat} {i : Nat} : (2 ^ k * (2 * m + 1) - 1).testBit i = (decide (i < k) || (decide (k < i) && m.testBit (i - k - 1))) := by
  have hp : 0 < 2 ^ k := Nat.two_pow_pos k
  have e : 2 ^ k * (2 * m + 1) - 1 = 2 ^ k * (2 * m) + (2 ^ k - 1) := by
    rw [Nat.mul_add, Nat.mul_one]; omega
  rw [e, Nat.testBit_two_pow_mul_add _ (by omega)]
  by_cases h : i < k
  · rw [if_pos h, show 2 ^ k - 1 = 2 ^ k - (0 + 1) by omega, Nat.testBit_two_pow_sub_succ hp]
    simp [h]
  · rw [if_neg h]
    by_cases h2 : i = k
    · subst h2; simp [Nat.testBit_zero]
    · obtain ⟨j, rfl⟩ : ∃ j, i = k + (j + 1) := ⟨i - k - 1, by omega⟩
      have e1 : k + (j + 1) - k = j + 1 := by omega
      have e3 : k < k + (j + 1) := by omega
      rw [e1, show j + 1 - 1 = j by omega, Nat.testBit_succ, show 2 * m / 2 = m by omega]
      simp [h, e3]
/-- The lowest bit goes first. -/
theorem bits_next {v : Nat} (h : v < w64) (h0 : v ≠ 0) : bitsOf v = Lib.ctz 64 v :: bitsOf (v &&& (v - 1)) ∧ Lib.ctz 64 v < 64 := by
  obtain ⟨m, hm, hk⟩ := Lib.ctzFrom_spec 64 v (by omega) h
  have ec : Lib.ctz 64 v = Lib.ctzFrom 64 v := by unfold Lib.ctz; rw [if_neg h0]
  rw [ec]
  generalize Lib.ctzFrom 64 v = k at hm hk
  refine ⟨?_, hk⟩
  unfold bitsOf
  rw [filter_least (k := k) List.pairwise_lt_range (List.mem_range.2 hk) (by rw [hm, pow_bit]; simp) (fun i _ hi => by
    rw [hm, pow_bit]
    have h1 : ¬ i = k := by omega
    have h2 : ¬ k < i := by omega
    simp [h1, h2])]
  congr 1
  refine List.filter_congr fun i _ => ?_
  rw [Nat.testBit_and, hm, pow_bit, pred_bit]
  by_cases h1 : i = k
  · subst h1; simp
  · by_cases h2 : i < k
    · have h3 : ¬ k < i := by omega
      simp [h1, h2, h3]
    · have h3 : k < i := by omega
      simp [h1, h2, h3]
theorem and_pred_lt {v : Nat} (h0 : v ≠ 0) : (v &&& (v - 1)) < v := by
  have : v &&& (v - 1) ≤ v - 1 := Nat.and_le_right
  omega
/-- All that a set has, word by word. -/
def allOf (U : Nat → Nat) (n : Nat) : List Nat := (List.range n).flatMap fun w => (bitsOf (U w)).map (64 * w + ·)
theorem allOf_succ (U : Nat → Nat) (n : Nat) : allOf U (n + 1) = allOf U n ++ (bitsOf (U n)).map (64 * n + ·) := by
  unfold allOf
  rw [List.range_succ, List.flatMap_append, List.flatMap_cons, List.flatMap_nil, List.append_nil]
theorem allOf_filter (U : Nat → Nat) : ∀ n, allOf U n = (List.range (64 * n)).filter fun t => hasW U t
  | 0 => rfl
  | n + 1 => by
    rw [allOf_succ, allOf_filter U n, show 64 * (n + 1) = 64 * n + 64 by omega, List.range_add, List.filter_append]
    congr 1
    unfold bitsOf
    rw [List.filter_map]
    congr 1
    refine List.filter_congr fun i hi => ?_
    have hi := List.mem_range.1 hi
    show (U n).testBit i = hasW U (64 * n + i)
    unfold hasW
    rw [show (64 * n + i) / 64 = n by omega, show (64 * n + i) % 64 = i by omega]
open Classical in
/-- What a block needs at its beginning, rising. -/
noncomputable def needN (g : PGr) (b : Nat) : List Nat := (List.range g.temps.toNat).filter fun t => decide (Need g b (t : Int))
noncomputable def needL (g : PGr) (b : Nat) : List Int := (needN g b).map fun (t : Nat) => (t : Int)
theorem filter_range {p : Nat → Bool} {a b : Nat} (hab : a ≤ b) (h : ∀ i, a ≤ i → p i = false) : (List.range b).filter p = (List.range a).filter p := by
  obtain ⟨d, rfl⟩ := Nat.exists_eq_add_of_le hab
  rw [List.range_add, List.filter_append]
  have : ((List.range d).map (a + ·)).filter p = [] := by
    rw [List.filter_eq_nil_iff]
    intro i hi
    obtain ⟨j, _, rfl⟩ := List.mem_map.1 hi
    rw [h _ (by omega)]; simp
  rw [this, List.append_nil]
open Classical in
/-- The words that were found, as a list. -/
theorem all_need {g : PGr} (hf : fitsB g = true) {b : Nat} {U : Nat → Nat} (hu : ∀ w i, w < 125 → i < 64 → ((U w).testBit i = true ↔ Need g b ((64 * w + i : Nat) : Int))) : allOf U 125 = needN g b := by
  have hp : ∀ t, t < 8000 → (hasW U t = true ↔ Need g b (t : Int)) := fun t ht => by
    unfold hasW
    rw [hu _ _ (by omega) (Nat.mod_lt _ (by decide)), Nat.div_add_mod]
  have ht : g.temps.toNat ≤ 8000 := by
    unfold fitsB at hf
    rw [Bool.and_eq_true, decide_eq_true_eq] at hf
    omega
  rw [allOf_filter]
  unfold needN
  rw [show 64 * 125 = 8000 by decide]
  rw [← filter_range (p := fun t => decide (Need g b (t : Int))) ht (fun i hi => decide_eq_false fun hn => by
    have := hn.temp hf
    unfold belowB at this
    simp only [Bool.and_eq_true, decide_eq_true_eq] at this
    omega)]
  refine List.filter_congr fun t h => ?_
  have h := hp t (List.mem_range.1 h)
  by_cases hn : Need g b (t : Int)
  · rw [h.2 hn, decide_eq_true hn]
  · rw [decide_eq_false hn]
    cases hq : hasW U t
    · rfl
    · exact absurd (h.1 hq) hn
/-- What lookAt says, for one word. -/
theorem look_fx {g : PGr} (hf : fitsB g = true) (w : Nat) {U S : Nat → Nat} {A : Nat → List Nat} (hu : ∀ b blk, g.blocks[b]? = some blk → U b = (lookB blk).u w) (hs : ∀ b blk, g.blocks[b]? = some blk → S b = (lookB blk).d w)
    (hu0 : ∀ b, g.blocks.length ≤ b → U b = 0) (hs0 : ∀ b, g.blocks.length ≤ b → S b = 0)
    (ha : ∀ b, b < g.blocks.length → ∀ c, c ∈ A b ↔ ∃ blk, g.blocks[c]? = some blk ∧ (b : Int) ∈ namedN blk.fin) : Fx g g.blocks.length w U S A := by
  have hlt : ∀ {V : Nat → Nat} {q : Look → Nat}, (∀ b blk, g.blocks[b]? = some blk → V b = q (lookB blk)) → (∀ b, g.blocks.length ≤ b → V b = 0) → (∀ blk, q (lookB blk) < w64) → ∀ b, V b < w64 := fun h1 h2 h3 b => by
    rcases Nat.lt_or_ge b g.blocks.length with h | h
    · rw [h1 b _ (List.getElem?_eq_getElem h)]; exact h3 _
    · rw [h2 b h]; decide
  refine ⟨rfl, hf, hlt (q := fun L => L.u w) hu hu0 (fun blk => (lookB_lt blk).u w), hlt (q := fun L => L.d w) hs hs0 (fun blk => (lookB_lt blk).d w), fun b blk hb i hi => ?_, fun b blk hb i hi => ?_, ha⟩
  · have := (look_has hf hb (64 * w + i)).1
    unfold hasW at this
    rw [show (64 * w + i) / 64 = w by omega, show (64 * w + i) % 64 = i by omega] at this
    rw [hu b blk hb, this]
  · have := (look_has hf hb (64 * w + i)).2
    unfold hasW at this
    rw [show (64 * w + i) / 64 = w by omega, show (64 * w + i) % 64 = i by omega] at this
    rw [hs b blk hb]; exact this
end Go.Proofs.YtcijaaiopfbffaaDoor.Live
