/- How what is needed spreads, plainly. No condition. -/
import Derived.Test.YtcijaaiopfbffaaDoorZa
namespace Go.Proofs.YtcijaaiopfbffaaDoor.Live
open Go.Proofs.YtcijaaiopfbffaaDoor.Graph

def w64 : Nat := 18446744073709551616
def put1 (f : Nat → Nat) (b v : Nat) : Nat → Nat := fun k => if k = b then v else f k
theorem put1_same (f : Nat → Nat) (b v : Nat) : put1 f b v b = v := by unfold put1; rw [if_pos rfl]
theorem put1_other {f : Nat → Nat} {b v k : Nat} (h : k ≠ b) : put1 f b v k = f k := by unfold put1; rw [if_neg h]
/-- Of a graph that fits, for one word of the sets: what each block uses, what it sets, which blocks lead to it. -/
structure Fx (g : PGr) (n w : Nat) (U S : Nat → Nat) (A : Nat → List Nat) : Prop where
  len : n = g.blocks.length
  fits : fitsB g = true
  ul : ∀ b, U b < w64
  sl : ∀ b, S b < w64
  u : ∀ b blk, g.blocks[b]? = some blk → ∀ i, i < 64 → (U b).testBit i = decide (firstB blk ((64 * w + i : Nat) : Int) = 1)
  s : ∀ b blk, g.blocks[b]? = some blk → ∀ i, i < 64 → ((S b).testBit i = true ↔ setIn blk ((64 * w + i : Nat) : Int))
  a : ∀ b, b < n → ∀ c, c ∈ A b ↔ ∃ blk, g.blocks[c]? = some blk ∧ (b : Int) ∈ namedN blk.fin
/-- Where it stands: N what is found, F what of that is not told yet; Q those that have something to tell; X what is excepted. -/
structure Sp (g : PGr) (n w : Nat) (U S : Nat → Nat) (A : Nat → List Nat) (N F : Nat → Nat) (Q : List Nat) (X : Nat → Nat → Nat → Prop) : Prop where
  nl : ∀ b, N b < w64
  sub : ∀ b, N b &&& F b = F b
  sound : ∀ b i, b < n → (N b).testBit i = true → Need g b ((64 * w + i : Nat) : Int)
  has : ∀ b i, b < n → (U b).testBit i = true → (N b).testBit i = true
  told : ∀ c a i, c < n → a ∈ A c → (N c).testBit i = true → (F c).testBit i = false → ((N a).testBit i = true ∨ (S a).testBit i = true) ∨ X c a i
  q : ∀ b, b ∈ Q ↔ b < n ∧ F b ≠ 0
  nd : Q.Nodup
theorem lt_bit {v i : Nat} (h : v < w64) (hi : v.testBit i = true) : i < 64 := by
  rcases Nat.lt_or_ge i 64 with h1 | h1
  · exact h1
  · have : v < 2 ^ i := Nat.lt_of_lt_of_le h (Nat.pow_le_pow_right (n := 2) (by omega) h1)
    rw [Nat.testBit_lt_two_pow this] at hi
    cases hi
theorem and_bit {a b : Nat} (h : a &&& b = b) {i : Nat} (hi : b.testBit i = true) : a.testBit i = true := by
  rw [← h, Nat.testBit_and, Bool.and_eq_true] at hi
  exact hi.1
theorem le_of_and {a b : Nat} (h : a &&& b = b) : b ≤ a := by rw [← h]; exact Nat.and_le_left
/-- Sums over blocks. -/
def tot (f : Nat → Nat) : Nat → Nat
  | 0 => 0
  | n + 1 => tot f n + f n
theorem tot_le {f h : Nat → Nat} : ∀ {n : Nat}, (∀ k, k < n → f k ≤ h k) → tot f n ≤ tot h n
  | 0, _ => Nat.le_refl _
  | n + 1, hk => Nat.add_le_add (tot_le fun k h => hk k (by omega)) (hk n (by omega))
theorem tot_lt {f h : Nat → Nat} {b : Nat} : ∀ {n : Nat}, (∀ k, k < n → f k ≤ h k) → b < n → f b < h b → tot f n < tot h n
  | 0, _, hb, _ => by omega
  | n + 1, hk, hb, hlt => by
    show tot f n + f n < tot h n + h n
    by_cases e : b = n
    · subst e
      have := tot_le (f := f) (h := h) (n := b) fun k h => hk k (by omega)
      omega
    · have := tot_lt (f := f) (h := h) (n := n) (fun k h => hk k (by omega)) (by omega) hlt
      have := hk n (by omega)
      omega
theorem tot_const (v : Nat) : ∀ n, tot (fun _ => v) n = n * v
  | 0 => by simp [tot]
  | n + 1 => by show tot _ n + v = _; rw [tot_const v n, Nat.succ_mul]
/-- How much is told. -/
def tl (N F : Nat → Nat) (n : Nat) : Nat := tot (fun b => N b ^^^ F b) n
section
variable {g : PGr} {n w : Nat} {U S N F : Nat → Nat} {A : Nat → List Nat} {Q : List Nat} {X Y : Nat → Nat → Nat → Prop}
theorem xor_sub {a b : Nat} (h : a &&& b = b) : a &&& (a ^^^ b) = a ^^^ b := by
  apply Nat.eq_of_testBit_eq
  intro i
  rw [Nat.testBit_and, Nat.testBit_xor]
  cases hb : b.testBit i
  · simp
  · rw [and_bit h hb]; simp
theorem tl_le (h : Sp g n w U S A N F Q X) : tl N F n ≤ n * w64 := by
  rw [← tot_const]
  refine tot_le fun k _ => ?_
  have h1 := le_of_and (xor_sub (h.sub k))
  have h2 := h.nl k
  omega
theorem Sp.weak (h : Sp g n w U S A N F Q X) (hx : ∀ c a i, X c a i → ((N a).testBit i = true ∨ (S a).testBit i = true) ∨ Y c a i) : Sp g n w U S A N F Q Y :=
  ⟨h.nl, h.sub, h.sound, h.has, fun c a i hc ha h1 h2 => by
    rcases h.told c a i hc ha h1 h2 with h3 | h3
    · exact .inl h3
    · exact hx c a i h3, h.q, h.nd⟩
/-- What is left to tell of a block, from some place of its list on. -/
def Left (A : Nat → List Nat) (b news k : Nat) : Nat → Nat → Nat → Prop := fun c a i => c = b ∧ a ∈ (A b).drop k ∧ news.testBit i = true
/-- The first one of those that have something to tell begins. -/
theorem Sp.begin {b : Nat} {r : List Nat} (h : Sp g n w U S A N F (b :: r) fun _ _ _ => False) :
    Sp g n w U S A N (put1 F b 0) r (Left A b (F b) 0) ∧ tl N F n < tl N (put1 F b 0) n ∧ b < n ∧ ∀ i, (F b).testBit i = true → Need g b ((64 * w + i : Nat) : Int) := by
  obtain ⟨hb, h0⟩ := (h.q b).1 (List.mem_cons_self ..)
  have hnd := List.nodup_cons.1 h.nd
  refine ⟨⟨h.nl, fun k => ?_, h.sound, h.has, fun c a i hc ha h1 h2 => ?_, fun k => ?_, hnd.2⟩, ?_, hb, fun i hi => h.sound b i hb (and_bit (h.sub b) hi)⟩
  · by_cases e : k = b
    · subst e; rw [put1_same]; simp
    · rw [put1_other e]; exact h.sub k
  · by_cases e : c = b
    · subst e
      cases hf : (F c).testBit i
      · rcases h.told c a i hc ha h1 hf with h3 | h3
        · exact .inl h3
        · exact h3.elim
      · exact .inr ⟨rfl, by rw [List.drop_zero]; exact ha, hf⟩
    · rw [put1_other e] at h2
      rcases h.told c a i hc ha h1 h2 with h3 | h3
      · exact .inl h3
      · exact h3.elim
  · by_cases e : k = b
    · subst e
      rw [put1_same]
      exact ⟨fun hk => absurd hk hnd.1, fun hk => absurd rfl hk.2⟩
    · rw [put1_other e, ← h.q k, List.mem_cons]
      exact ⟨.inr, fun hk => hk.resolve_left e⟩
  · refine tot_lt (b := b) (fun k _ => ?_) hb ?_
    · by_cases e : k = b
      · subst e
        rw [put1_same, Nat.xor_zero]
        exact le_of_and (xor_sub (h.sub k))
      · rw [put1_other e]; exact Nat.le_refl _
    · simp only [put1_same, Nat.xor_zero]
      refine Nat.lt_of_le_of_ne (le_of_and (xor_sub (h.sub b))) fun e => h0 ?_
      have : N b ^^^ (N b ^^^ F b) = N b ^^^ N b := by rw [e]
      rw [← Nat.xor_assoc, Nat.xor_self, Nat.zero_xor] at this
      exact this
theorem mem_drop {l : List Nat} {k a c : Nat} (hk : l[k]? = some a) (h : c ∈ l.drop k) : c = a ∨ c ∈ l.drop (k + 1) := by
  obtain ⟨hlt, e⟩ := List.getElem?_eq_some_iff.1 hk
  rw [List.drop_eq_getElem_cons hlt, e, List.mem_cons] at h
  exact h
/-- Nothing to tell to this one. -/
theorem Sp.skip {b news k a : Nat} (h : Sp g n w U S A N F Q (Left A b news k)) (hk : (A b)[k]? = some a) (h0 : ∀ i, news.testBit i = true → (N a).testBit i = true ∨ (S a).testBit i = true) :
    Sp g n w U S A N F Q (Left A b news (k + 1)) :=
  h.weak fun c a' i ⟨hc, ha, hi⟩ => by
    rcases mem_drop hk ha with rfl | ha
    · exact .inl (h0 i hi)
    · exact .inr ⟨hc, ha, hi⟩
theorem bit_or (a b i : Nat) : (a ||| b).testBit i = (a.testBit i || b.testBit i) := Nat.testBit_or a b i
/-- Something to tell to this one. -/
theorem Sp.tell {b news k a f : Nat} (hx : Fx g n w U S A) (h : Sp g n w U S A N F Q (Left A b news k)) (hk : (A b)[k]? = some a) (hb : b < n) (hn : ∀ i, news.testBit i = true → Need g b ((64 * w + i : Nat) : Int))
    (hl : f < w64) (hf : ∀ i, f.testBit i = (news.testBit i && !(S a).testBit i && !(N a).testBit i)) (h0 : f ≠ 0) :
    a < n ∧ Sp g n w U S A (put1 N a (N a ||| f)) (put1 F a (F a ||| f)) (if F a = 0 then Q ++ [a] else Q) (Left A b news (k + 1)) ∧ tl (put1 N a (N a ||| f)) (put1 F a (F a ||| f)) n = tl N F n := by
  obtain ⟨blk, hblk, hnm⟩ := (hx.a b hb a).1 (List.mem_of_getElem? hk)
  have ha : a < n := by rw [hx.len]; exact (List.getElem?_eq_some_iff.1 hblk).1
  have hfn : ∀ i, f.testBit i = true → (N a).testBit i = false := fun i hi => by
    rw [hf] at hi
    simp only [Bool.and_eq_true, Bool.not_eq_true'] at hi
    exact hi.2
  have hpos : (F a ||| f) ≠ 0 := fun e => by
    have : f ≤ F a ||| f := Nat.right_le_or
    omega
  have hx2 : ∀ i, ((N a ||| f) ^^^ (F a ||| f)).testBit i = (N a ^^^ F a).testBit i := fun i => by
    rw [Nat.testBit_xor, bit_or, bit_or, Nat.testBit_xor]
    cases hi : f.testBit i
    · simp
    · have h1 := hfn i hi
      have h2 : (F a).testBit i = false := by
        cases h3 : (F a).testBit i
        · rfl
        · rw [and_bit (h.sub a) h3] at h1; cases h1
      rw [h1, h2]; rfl
  refine ⟨ha, ⟨fun c => ?_, fun c => ?_, fun c i hc hi => ?_, fun c i hc hi => ?_, fun c a' i hc ha' h1 h2 => ?_, fun c => ?_, ?_⟩, ?_⟩
  · by_cases e : c = a
    · subst e; rw [put1_same]; exact Nat.or_lt_two_pow (n := 64) (h.nl c) hl
    · rw [put1_other e]; exact h.nl c
  · by_cases e : c = a
    · subst e
      rw [put1_same, put1_same]
      apply Nat.eq_of_testBit_eq
      intro i
      rw [Nat.testBit_and, bit_or, bit_or]
      cases h3 : (F c).testBit i
      · cases f.testBit i <;> simp
      · rw [and_bit (h.sub c) h3]; simp
    · rw [put1_other e, put1_other e]; exact h.sub c
  · by_cases e : c = a
    · subst e
      rw [put1_same, bit_or, Bool.or_eq_true] at hi
      rcases hi with hi | hi
      · exact h.sound c i hc hi
      · have hi2 := hi
        rw [hf] at hi2
        simp only [Bool.and_eq_true, Bool.not_eq_true'] at hi2
        obtain ⟨⟨h1, h2⟩, h3⟩ := hi2
        have hi64 := lt_bit hl hi
        refine .step hblk (first_none ?_ ?_) hnm (hn i h1)
        · intro h4
          have h5 := hx.u c blk hblk i hi64
          unfold firstB at h5
          rw [h4] at h5
          rw [h.has c i hc (by rw [h5]; rfl)] at h3
          cases h3
        · intro x hx1 hx2
          rw [(hx.s c blk hblk i hi64).2 ⟨x, hx1, hx2⟩] at h2
          cases h2
    · rw [put1_other e] at hi; exact h.sound c i hc hi
  · by_cases e : c = a
    · subst e; rw [put1_same, bit_or, h.has c i hc hi]; rfl
    · rw [put1_other e]; exact h.has c i hc hi
  · have key : ∀ d, (N d).testBit i = true → (put1 N a (N a ||| f) d).testBit i = true := fun d hd => by
      by_cases e : d = a
      · subst e; rw [put1_same, bit_or, hd]; rfl
      · rw [put1_other e]; exact hd
    have h3 : (N c).testBit i = true ∧ (F c).testBit i = false := by
      by_cases e : c = a
      · subst e
        rw [put1_same, bit_or] at h1 h2
        rw [Bool.or_eq_false_iff] at h2
        rw [h2.2, Bool.or_false] at h1
        exact ⟨h1, h2.1⟩
      · rw [put1_other e] at h1 h2
        exact ⟨h1, h2⟩
    rcases h.told c a' i hc ha' h3.1 h3.2 with (h4 | h4) | ⟨h4, h5, h6⟩
    · exact .inl (.inl (key _ h4))
    · exact .inl (.inr h4)
    · rcases mem_drop hk h5 with rfl | h5
      · cases hs : (S a').testBit i
        · refine .inl (.inl ?_)
          rw [put1_same, bit_or, hf, h6, hs]
          cases (N a').testBit i <;> rfl
        · exact .inl (.inr rfl)
      · exact .inr ⟨h4, h5, h6⟩
  · by_cases e : c = a
    · subst e
      rw [put1_same]
      refine ⟨fun _ => ⟨ha, hpos⟩, fun _ => ?_⟩
      by_cases hz : F c = 0
      · rw [if_pos hz]; simp
      · rw [if_neg hz]; exact (h.q c).2 ⟨ha, hz⟩
    · rw [put1_other e, ← h.q c]
      by_cases hz : F a = 0
      · rw [if_pos hz]; simp [e]
      · rw [if_neg hz]
  · by_cases hz : F a = 0
    · rw [if_pos hz]
      refine List.nodup_append.2 ⟨h.nd, by simp, fun x hx y hy e => ?_⟩
      rw [List.mem_singleton] at hy
      subst hy e
      exact ((h.q x).1 hx).2 hz
    · rw [if_neg hz]; exact h.nd
  · unfold tl
    congr 1
    funext c
    by_cases e : c = a
    · subst e
      rw [put1_same, put1_same]
      exact Nat.eq_of_testBit_eq hx2
    · rw [put1_other e, put1_other e]
/-- All is told to all that lead to it. -/
theorem Sp.done {b news : Nat} (h : Sp g n w U S A N F Q (Left A b news (A b).length)) : Sp g n w U S A N F Q fun _ _ _ => False :=
  h.weak fun c a i ⟨_, ha, _⟩ => by rw [List.drop_length] at ha; cases ha
/-- The beginning. -/
theorem Sp.start (hx : Fx g n w U S A) {Q : List Nat} (hq : ∀ b, b ∈ Q ↔ b < n ∧ U b ≠ 0) (hn : Q.Nodup) : Sp g n w U S A U U Q fun _ _ _ => False :=
  ⟨hx.ul, fun b => Nat.and_self _, fun b i hb hi => (by
    obtain ⟨blk, hblk⟩ : ∃ blk, g.blocks[b]? = some blk := ⟨_, List.getElem?_eq_getElem (by rw [← hx.len]; exact hb)⟩
    have := hx.u b blk hblk i (lt_bit (hx.ul b) hi)
    rw [hi] at this
    exact .use hblk (of_decide_eq_true this.symm)), fun _ _ _ h => h, fun c a i _ _ h1 h2 => (by rw [h1] at h2; cases h2), hq, hn⟩
/-- The end: what is found is what is needed. -/
theorem Sp.all (hx : Fx g n w U S A) (h : Sp g n w U S A N F [] fun _ _ _ => False) {b i : Nat} (hb : b < n) (hi : i < 64) : (N b).testBit i = true ↔ Need g b ((64 * w + i : Nat) : Int) := by
  refine ⟨h.sound b i hb, fun hn => ?_⟩
  have hF : ∀ c, c < n → F c = 0 := fun c hc => Classical.byContradiction fun h0 => by
    exact absurd ((h.q c).2 ⟨hc, h0⟩) List.not_mem_nil
  generalize ht : ((64 * w + i : Nat) : Int) = t at hn
  clear hb
  induction hn with
  | @use b blk t' hblk h1 =>
    subst ht
    have hb : b < n := by rw [hx.len]; exact (List.getElem?_eq_some_iff.1 hblk).1
    exact h.has b i hb (by rw [hx.u b blk hblk i hi, h1]; rfl)
  | @step b c blk t' hblk h0 hc hn ih =>
    have ih2 := ih ht
    subst ht
    have hb : b < n := by rw [hx.len]; exact (List.getElem?_eq_some_iff.1 hblk).1
    have hcn : c < n := by rw [hx.len]; exact hn.lt
    rcases h.told c b i hcn ((hx.a c hcn b).2 ⟨blk, hblk, hc⟩) ih2 (by rw [hF c hcn]; simp) with (h3 | h3) | h3
    · exact h3
    · exact absurd ((hx.s b blk hblk i hi).1 h3) (not_set h0)
    · exact h3.elim
end
end Go.Proofs.YtcijaaiopfbffaaDoor.Live
