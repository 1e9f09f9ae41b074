/- Which temps a block needs, plainly. No condition. -/
import Derived.Test.YtcijaaiopfbffaaDoorMs
namespace Go.Proofs.YtcijaaiopfbffaaDoor.Live
open Go.Proofs.YtcijaaiopfbffaaDoor.Graph

/-- The temps that an instruction uses, in their order. -/
def usesI (x : PIns) : List Int := if x.op = 29 then x.args else if x.op = 1 ∨ x.op = 25 ∨ x.op = 30 then [] else if (6 ≤ x.op ∧ x.op ≤ 24) ∨ x.op = 28 then [x.a, x.b] else [x.a]
def setsT (x : PIns) : Bool := if x.op = 26 ∨ x.op = 28 ∨ x.op = 31 ∨ x.op = 32 then false else if x.op = 29 then x.d != -1 else true
def usesE (e : PEnd) : List Int := (if e.kind = 1 ∨ (e.kind = 5 ∧ e.a = -1) then [] else [e.a]) ++ (if e.kind = 2 then [e.b] else [])
def namedN (e : PEnd) : List Int := if e.kind = 1 then [e.to] else if e.kind = 2 then [e.to, e.els] else if e.kind = 3 then e.to :: e.cases.map (·.to) else if e.kind = 4 then e.to :: e.targets else []
def insFit (m : Int) (x : PIns) : Bool := decide (1 ≤ x.op) && decide (x.op ≤ 32) && (!setsT x || belowB x.d m) && (usesI x).all (belowB · m)
def endFit (m : Int) (e : PEnd) : Bool := decide (1 ≤ e.kind) && decide (e.kind ≤ 5) && (usesE e).all (belowB · m)
def blkFit (m : Int) (b : PBlk) : Bool := b.code.all (insFit m) && endFit m b.fin
def fitsB (g : PGr) : Bool := decide (1 ≤ g.blocks.length ∧ g.blocks.length ≤ 20000 ∧ 0 ≤ g.temps ∧ g.temps ≤ 8000) && g.blocks.all (fun b => blkFit g.temps b && (namedN b.fin).all (belowB · g.blocks.length))
/-- What a block does first with a temp: 1 uses it, 2 sets it, 0 neither. -/
def firstC (e : PEnd) (t : Int) : List PIns → Nat
  | [] => if t ∈ usesE e then 1 else 0
  | x :: r => if t ∈ usesI x then 1 else if setsT x = true ∧ x.d = t then 2 else firstC e t r
def firstB (b : PBlk) (t : Int) : Nat := firstC b.fin t b.code
/-- A temp is needed at a block's beginning. -/
inductive Need (g : PGr) : Nat → Int → Prop
  | use {b : Nat} {blk : PBlk} {t : Int} (hb : g.blocks[b]? = some blk) (h : firstB blk t = 1) : Need g b t
  | step {b c : Nat} {blk : PBlk} {t : Int} (hb : g.blocks[b]? = some blk) (h : firstB blk t = 0) (hc : (c : Int) ∈ namedN blk.fin) (hn : Need g c t) : Need g b t
theorem Need.lt {g : PGr} {b : Nat} {t : Int} (h : Need g b t) : b < g.blocks.length := by
  cases h with
  | use hb _ => exact (List.getElem?_eq_some_iff.1 hb).1
  | step hb _ _ _ => exact (List.getElem?_eq_some_iff.1 hb).1
theorem first_le (e : PEnd) (t : Int) : ∀ l, firstC e t l ≤ 2
  | [] => by unfold firstC; split <;> omega
  | x :: r => by
    unfold firstC
    have := first_le e t r
    (repeat' split) <;> omega
theorem first_temp {m : Int} {e : PEnd} {t : Int} (he : endFit m e = true) : ∀ {l : List PIns}, l.all (insFit m) = true → firstC e t l = 1 → belowB t m = true
  | [], _, h => by
    unfold firstC at h
    split at h
    · rename_i h1
      unfold endFit at he
      simp only [Bool.and_eq_true, List.all_eq_true] at he
      exact he.2 t h1
    · cases h
  | x :: r, hl, h => by
    rw [List.all_cons, Bool.and_eq_true] at hl
    unfold firstC at h
    split at h
    · rename_i h1
      have h2 := hl.1
      unfold insFit at h2
      simp only [Bool.and_eq_true, List.all_eq_true] at h2
      exact h2.2 t h1
    · split at h
      · cases h
      · exact first_temp he hl.2 h
theorem fits_blk {g : PGr} (h : fitsB g = true) {b : Nat} {blk : PBlk} (hb : g.blocks[b]? = some blk) : blkFit g.temps blk = true ∧ (namedN blk.fin).all (belowB · g.blocks.length) = true := by
  unfold fitsB at h
  rw [Bool.and_eq_true, List.all_eq_true] at h
  have := h.2 blk (List.mem_of_getElem? hb)
  rw [Bool.and_eq_true] at this
  exact this
theorem Need.temp {g : PGr} (hf : fitsB g = true) {b : Nat} {t : Int} (h : Need g b t) : belowB t g.temps = true := by
  induction h with
  | use hb h =>
    have := (fits_blk hf hb).1
    unfold blkFit at this
    rw [Bool.and_eq_true] at this
    exact first_temp this.2 this.1 h
  | step _ _ _ _ ih => exact ih
/-- The temps that a block sets. -/
def setIn (b : PBlk) (t : Int) : Prop := ∃ x ∈ b.code, setsT x = true ∧ x.d = t
theorem first_zero {e : PEnd} {t : Int} : ∀ {l : List PIns}, firstC e t l = 0 → ∀ x ∈ l, ¬(setsT x = true ∧ x.d = t)
  | [], _, x, hx => by cases hx
  | y :: r, h, x, hx => by
    unfold firstC at h
    split at h
    · cases h
    · split at h
      · cases h
      · rename_i h2
        rcases List.mem_cons.1 hx with rfl | hx
        · exact h2
        · exact first_zero h x hx
theorem not_set {b : PBlk} {t : Int} (h : firstB b t = 0) : ¬ setIn b t := fun ⟨x, hx, h2⟩ => first_zero h x hx h2
theorem first_none {e : PEnd} {t : Int} : ∀ {l : List PIns}, firstC e t l ≠ 1 → (∀ x ∈ l, ¬(setsT x = true ∧ x.d = t)) → firstC e t l = 0
  | [], h, _ => by
    unfold firstC at h ⊢
    split
    · rename_i h1; rw [if_pos h1] at h; exact absurd rfl h
    · rfl
  | y :: r, h, hs => by
    unfold firstC at h ⊢
    split
    · rename_i h1; rw [if_pos h1] at h; exact absurd rfl h
    · rename_i h1
      rw [if_neg h1] at h
      rw [if_neg (hs y (List.mem_cons_self ..))] at h ⊢
      exact first_none h (fun x hx => hs x (List.mem_cons_of_mem _ hx))
/-- Words of sets: a bit for each temp. -/
def hasW (U : Nat → Nat) (t : Nat) : Bool := (U (t / 64)).testBit (t % 64)
def addW (U : Nat → Nat) (t : Nat) : Nat → Nat := fun w => if w = t / 64 then U w ||| 2 ^ (t % 64) else U w
theorem hasW_add (U : Nat → Nat) (t s : Nat) : hasW (addW U t) s = (decide (s = t) || hasW U s) := by
  unfold hasW addW
  by_cases h : s / 64 = t / 64
  · rw [if_pos h, Nat.testBit_or, Nat.testBit_two_pow]
    by_cases e : s = t
    · subst e; simp
    · have : ¬ (t % 64 = s % 64) := by omega
      simp [this, e]
  · rw [if_neg h]
    have : s ≠ t := fun e => h (by rw [e])
    simp [this]
theorem addW_lt {U : Nat → Nat} {t : Nat} (h : ∀ w, U w < 18446744073709551616) : ∀ w, addW U t w < 18446744073709551616 := fun w => by
  unfold addW
  split
  · have h1 : (2 : Nat) ^ (t % 64) < 2 ^ 64 := Nat.pow_lt_pow_right (by decide) (Nat.mod_lt _ (by decide))
    exact Nat.or_lt_two_pow (n := 64) (h w) h1
  · exact h w
/-- What a block says alone: what it uses ahead of setting it, and what it sets. -/
structure Look where
  u : Nat → Nat
  d : Nat → Nat
def Look.use (L : Look) (t : Int) : Look := if hasW L.d t.toNat then L else { L with u := addW L.u t.toNat }
def Look.set (L : Look) (x : PIns) : Look := if setsT x then { L with d := addW L.d x.d.toNat } else L
def Look.ins (L : Look) (x : PIns) : Look := ((usesI x).foldl Look.use L).set x
def Look.fin (L : Look) (e : PEnd) : Look := (usesE e).foldl Look.use L
def look0 : Look := ⟨fun _ => 0, fun _ => 0⟩
def lookB (b : PBlk) : Look := (b.code.foldl Look.ins look0).fin b.fin
structure Look.Lt (L : Look) : Prop where
  u : ∀ w, L.u w < 18446744073709551616
  d : ∀ w, L.d w < 18446744073709551616
theorem Look.Lt.use {L : Look} (h : L.Lt) (t : Int) : (L.use t).Lt := by
  unfold Look.use
  split
  · exact h
  · exact ⟨addW_lt h.u, h.d⟩
theorem Look.Lt.uses {l : List Int} : ∀ {L : Look}, L.Lt → (l.foldl Look.use L).Lt := by
  induction l with
  | nil => exact fun h => h
  | cons t r ih => exact fun h => ih (h.use t)
theorem Look.Lt.set {L : Look} (h : L.Lt) (x : PIns) : (L.set x).Lt := by
  unfold Look.set
  split
  · exact ⟨h.u, addW_lt h.d⟩
  · exact h
theorem Look.Lt.ins {L : Look} (h : L.Lt) (x : PIns) : (L.ins x).Lt := h.uses.set x
theorem Look.Lt.code {l : List PIns} : ∀ {L : Look}, L.Lt → (l.foldl Look.ins L).Lt := by
  induction l with
  | nil => exact fun h => h
  | cons t r ih => exact fun h => ih (h.ins t)
theorem look0_lt : look0.Lt := ⟨fun _ => (by show (0 : Nat) < _; decide), fun _ => (by show (0 : Nat) < _; decide)⟩
theorem lookB_lt (b : PBlk) : (lookB b).Lt := look0_lt.code.uses
theorem has_use (L : Look) {s : Int} (hs : 0 ≤ s) (t : Nat) : hasW (L.use s).u t = (hasW L.u t || (decide ((t : Int) = s) && !hasW L.d t)) ∧ (L.use s).d = L.d := by
  unfold Look.use
  obtain ⟨k, rfl⟩ := Int.eq_ofNat_of_zero_le hs
  rw [Int.toNat_natCast]
  by_cases e : t = k
  · subst e
    cases h : hasW L.d t
    · rw [if_neg (by simp)]
      refine ⟨?_, rfl⟩
      rw [hasW_add]; simp
    · rw [if_pos rfl]
      simp
  · have e2 : ¬ ((t : Int) = (k : Int)) := by omega
    cases h : hasW L.d k
    · rw [if_neg (by simp)]
      refine ⟨?_, rfl⟩
      rw [hasW_add]; simp [e, e2]
    · rw [if_pos rfl]
      simp [e2]
theorem has_uses {l : List Int} : ∀ {L : Look}, (∀ s ∈ l, 0 ≤ s) → ∀ t : Nat, hasW (l.foldl Look.use L).u t = (hasW L.u t || (decide ((t : Int) ∈ l) && !hasW L.d t)) ∧ (l.foldl Look.use L).d = L.d := by
  induction l with
  | nil => intro L _ t; simp
  | cons s r ih =>
    intro L hs t
    obtain ⟨h1, h2⟩ := has_use L (hs s (List.mem_cons_self ..)) t
    obtain ⟨h3, h4⟩ := ih (L := L.use s) (fun x hx => hs x (List.mem_cons_of_mem _ hx)) t
    rw [List.foldl_cons]
    refine ⟨?_, h4.trans h2⟩
    rw [h3, h1, h2]
    simp only [List.mem_cons]
    cases hasW L.u t <;> cases hasW L.d t <;> by_cases e : (t : Int) = s <;> simp [e]
theorem has_set (L : Look) (x : PIns) (hx : setsT x = true → 0 ≤ x.d) (t : Nat) : hasW (L.set x).d t = (hasW L.d t || (setsT x && decide (x.d = (t : Int)))) ∧ (L.set x).u = L.u := by
  unfold Look.set
  cases h : setsT x
  · rw [if_neg (by simp)]; simp
  · rw [if_pos rfl]
    refine ⟨?_, rfl⟩
    obtain ⟨k, hk⟩ := Int.eq_ofNat_of_zero_le (hx h)
    rw [hasW_add, hk, Int.toNat_natCast]
    by_cases e : t = k
    · subst e; simp
    · have : ¬ ((k : Int) = (t : Int)) := by omega
      simp [e, this]
theorem below_nonneg {t m : Int} (h : belowB t m = true) : 0 ≤ t := by
  unfold belowB at h
  simp only [Bool.and_eq_true, decide_eq_true_eq] at h
  exact h.1
theorem fit_parts {m : Int} {x : PIns} (h : insFit m x = true) : (∀ s ∈ usesI x, 0 ≤ s) ∧ (setsT x = true → 0 ≤ x.d) := by
  unfold insFit at h
  simp only [Bool.and_eq_true, List.all_eq_true, Bool.or_eq_true, Bool.not_eq_true'] at h
  refine ⟨fun s hs => below_nonneg (h.2 s hs), fun hx => ?_⟩
  rcases h.1.2 with h1 | h1
  · rw [h1] at hx; cases hx
  · exact below_nonneg h1
/-- Behind some instructions: what is used is used first or was; what is set is set. -/
theorem has_code {m : Int} {e : PEnd} (he : endFit m e = true) : ∀ {l : List PIns} {L : Look}, l.all (insFit m) = true → ∀ t : Nat,
    hasW ((l.foldl Look.ins L).fin e).u t = (hasW L.u t || (decide (firstC e (t : Int) l = 1) && !hasW L.d t)) ∧
    hasW ((l.foldl Look.ins L).fin e).d t = (hasW L.d t || decide (∃ x ∈ l, setsT x = true ∧ x.d = (t : Int)))
  | [], L, _, t => by
    have hu : ∀ s ∈ usesE e, 0 ≤ s := fun s hs => by
      unfold endFit at he
      simp only [Bool.and_eq_true, List.all_eq_true] at he
      exact below_nonneg (he.2 s hs)
    obtain ⟨h1, h2⟩ := has_uses (L := L) hu t
    unfold Look.fin
    rw [List.foldl_nil, h1, h2]
    refine ⟨?_, by simp⟩
    have : decide (firstC e (t : Int) [] = 1) = decide ((t : Int) ∈ usesE e) := by
      unfold firstC
      by_cases h : (t : Int) ∈ usesE e <;> simp [h]
    rw [this]
  | x :: r, L, hl, t => by
    rw [List.all_cons, Bool.and_eq_true] at hl
    obtain ⟨hx1, hx2⟩ := fit_parts hl.1
    obtain ⟨h1, h2⟩ := has_uses (L := L) hx1 t
    obtain ⟨h3, h4⟩ := has_set ((usesI x).foldl Look.use L) x hx2 t
    obtain ⟨h5, h6⟩ := has_code he (l := r) (L := L.ins x) hl.2 t
    rw [List.foldl_cons, h5, h6]
    have e1 : hasW (L.ins x).u t = (hasW L.u t || (decide ((t : Int) ∈ usesI x) && !hasW L.d t)) := by unfold Look.ins; rw [h4]; exact h1
    have e2 : hasW (L.ins x).d t = (hasW L.d t || (setsT x && decide (x.d = (t : Int)))) := by unfold Look.ins; rw [h3, h2]
    rw [e1, e2]
    have e3 : decide (firstC e (t : Int) (x :: r) = 1) = (decide ((t : Int) ∈ usesI x) || (decide (firstC e (t : Int) r = 1) && !(setsT x && decide (x.d = (t : Int))))) := by
      show decide ((if (t : Int) ∈ usesI x then 1 else if setsT x = true ∧ x.d = (t : Int) then 2 else firstC e (t : Int) r) = 1) = _
      by_cases h : (t : Int) ∈ usesI x
      · simp [h]
      · by_cases h' : setsT x = true ∧ x.d = (t : Int)
        · simp [h, h'.1, h'.2]
        · have : (setsT x && decide (x.d = (t : Int))) = false := by
            cases hq : setsT x
            · rfl
            · have : ¬ x.d = (t : Int) := fun h9 => h' ⟨hq, h9⟩
              simp [this]
          rw [this]
          simp [h, h']
    have e4 : decide (∃ y ∈ x :: r, setsT y = true ∧ y.d = (t : Int)) = ((setsT x && decide (x.d = (t : Int))) || decide (∃ y ∈ r, setsT y = true ∧ y.d = (t : Int))) := by
      simp only [List.mem_cons, exists_eq_or_imp, Bool.decide_or, Bool.decide_and, Bool.decide_eq_true]
    rw [e3, e4]
    constructor
    · cases hasW L.u t <;> cases hasW L.d t <;> cases decide ((t : Int) ∈ usesI x) <;> cases (setsT x && decide (x.d = (t : Int))) <;> simp
    · cases hasW L.d t <;> cases (setsT x && decide (x.d = (t : Int))) <;> simp
theorem look_has {g : PGr} (hf : fitsB g = true) {b : Nat} {blk : PBlk} (hb : g.blocks[b]? = some blk) (t : Nat) :
    hasW (lookB blk).u t = decide (firstB blk (t : Int) = 1) ∧ (hasW (lookB blk).d t = true ↔ setIn blk (t : Int)) := by
  have h := (fits_blk hf hb).1
  unfold blkFit at h
  rw [Bool.and_eq_true] at h
  obtain ⟨h1, h2⟩ := has_code (m := g.temps) h.2 (l := blk.code) (L := look0) h.1 t
  have h0 : hasW look0.u t = false ∧ hasW look0.d t = false := by unfold hasW look0; simp
  rw [h0.1, h0.2] at h1
  rw [h0.2] at h2
  refine ⟨by unfold lookB firstB; rw [h1]; simp, ?_⟩
  unfold lookB setIn
  rw [h2]
  simp
end Go.Proofs.YtcijaaiopfbffaaDoor.Live
