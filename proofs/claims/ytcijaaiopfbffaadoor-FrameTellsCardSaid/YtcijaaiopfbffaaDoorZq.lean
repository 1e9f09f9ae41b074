/- How what blocks need lies while it spreads: live's needs. No condition. -/
import Derived.Test.YtcijaaiopfbffaaDoorZo
import Derived.Test.YtcijaaiopfbffaaDoorZn
import Derived.Deep.AppendLies
namespace Go.Proofs.YtcijaaiopfbffaaDoor.Live
open Go.RowKit Go.Proofs.YtcijaaiopfbffaaDoor.Graph

def iN (k : Nat) : Value := .int .i64 (k : Int)
/-- A row of words. -/
def WRow (w : World) (g n : Nat) (U : Nat → Nat) : Prop :=
  ∃ cs, w.heap[g]? = some (.cells cs 71 (0, 0)) ∧ cs.size = n ∧ ∀ b, b < n → cs[b]? = some (.int .u64 (U b : Nat))
section
variable {w w' : World} {g n : Nat} {U : Nat → Nat}
theorem WRow.lt (h : WRow w g n U) : g < w.heap.size := by
  obtain ⟨cs, h1, _⟩ := h
  exact (Array.getElem?_eq_some_iff.1 h1).1
theorem WRow.cell (h : WRow w g n U) {b : Nat} (hb : b < n) : w.cell? ⟨g, b, none⟩ = some (.int .u64 (U b : Nat)) := by
  obtain ⟨cs, h1, _, h3⟩ := h
  simp [World.cell?, h1, h3 b hb]
theorem WRow.frozen (h : WRow w g n U) (k : Nat) : w.frozen? ⟨g, k, none⟩ = false := by
  obtain ⟨cs, h1, _⟩ := h
  simp [World.frozen?, h1]
theorem WRow.keep (h : WRow w g n U) (he : w'.heap[g]? = w.heap[g]?) : WRow w' g n U := by
  obtain ⟨cs, h1, h2⟩ := h
  exact ⟨cs, he.trans h1, h2⟩
theorem WRow.set (h : WRow w g n U) {b : Nat} (v : Nat) : WRow (w.setCell ⟨g, b, none⟩ (.int .u64 (v : Nat))) g n (put1 U b v) := by
  obtain ⟨cs, h1, h2, h3⟩ := h
  refine ⟨_, heap_setCell_same w g _ _ _ _ h1, by simpa using h2, fun c hc => ?_⟩
  have h4 := h3 c hc
  by_cases e : c = b
  · subst e
    rw [Array.getElem?_setIfInBounds_self_of_lt (Array.getElem?_eq_some_iff.1 h4).1, put1_same]
  · rw [Array.getElem?_setIfInBounds_ne (Ne.symm e), put1_other e]
    exact h4
end
/-- Which blocks lead to which, as it lies. -/
def AhR (w : World) (va : Value) (n : Nat) (A : Nat → List Nat) : Prop :=
  ∃ ab, va = .slice (some ⟨ab, 0, none⟩) n n ∧ ab < w.heap.size ∧ ∀ b, b < n → ∃ v, w.cell? ⟨ab, b, none⟩ = some v ∧ IntsR w v ((A b).map fun (k : Nat) => (k : Int))
structure NdSt (sb nb fb db n : Nat) (va : Value) (N F S : Nat → Nat) (w : World) : Prop where
  box : w.heap[sb]? = some (.cells #[.slice (some ⟨nb, 0, none⟩) n n, .slice (some ⟨fb, 0, none⟩) n n, .slice (some ⟨db, 0, none⟩) n n, va] 103 (0, 0))
  nr : WRow w nb n N
  fr : WRow w fb n F
  sr : WRow w db n S
  ne : sb ≠ nb ∧ sb ≠ fb ∧ db ≠ nb ∧ db ≠ fb ∧ nb ≠ fb
/-- All stays but two blocks and a row. -/
structure TellK (nb fb : Nat) (row : Option Nat) (w w' : World) : Prop where
  os : w'.os = w.os
  tape : w'.tape = w.tape
  output : w'.output = w.output
  size : w.heap.size ≤ w'.heap.size
  block : ∀ k, k < w.heap.size → k ≠ nb → k ≠ fb → row ≠ some k → w'.heap[k]? = w.heap[k]?
section
variable {w w' w2 : World} {sb nb fb db n : Nat} {va : Value} {N F S : Nat → Nat} {row row' : Option Nat}
theorem TellK.refl (nb fb : Nat) (row : Option Nat) (w : World) : TellK nb fb row w w := ⟨rfl, rfl, rfl, Nat.le_refl _, fun _ _ _ _ _ => rfl⟩
theorem TellK.trans (h : TellK nb fb row w w') (k : TellK nb fb row' w' w2) (hr : row' = row ∨ ∀ g, row' = some g → w.heap.size ≤ g) : TellK nb fb row w w2 :=
  ⟨k.os.trans h.os, k.tape.trans h.tape, k.output.trans h.output, Nat.le_trans h.size k.size, fun i hi h1 h2 h3 => (k.block i (Nat.lt_of_lt_of_le hi h.size) h1 h2 (by
    rcases hr with rfl | hr
    · exact h3
    · intro e; have := hr i e; omega)).trans (h.block i hi h1 h2 h3)⟩
theorem TellK.of_below (row : Option Nat) (h : Below w.heap.size w w') : TellK nb fb row w w' := ⟨h.os, h.tape, h.output, h.size, fun k hk _ _ _ => h.block k hk⟩
theorem TellK.setF (nb fb i : Nat) (row : Option Nat) (w : World) (v : Value) : TellK nb fb row w (w.setCell ⟨fb, i, none⟩ v) :=
  ⟨rfl, rfl, rfl, by rw [World.size_setCell]; exact Nat.le_refl _, fun k _ _ h2 _ => Below.heap_setCell w ⟨fb, i, none⟩ v k (fun e => h2 e)⟩
theorem TellK.setN (nb fb i : Nat) (row : Option Nat) (w : World) (v : Value) : TellK nb fb row w (w.setCell ⟨nb, i, none⟩ v) :=
  ⟨rfl, rfl, rfl, by rw [World.size_setCell]; exact Nat.le_refl _, fun k _ h1 _ _ => Below.heap_setCell w ⟨nb, i, none⟩ v k (fun e => h1 e)⟩
theorem TellK.grown (h : w.grownBy w' row) : TellK nb fb row w w' := ⟨h.os, h.tape, h.output, h.size, fun k hk _ _ h3 => h.block k hk (fun e => h3 e.symm)⟩
theorem TellK.below {w0 : World} (h : TellK nb fb row w w') (hw : Below w0.heap.size w0 w) (h1 : w0.heap.size ≤ nb) (h2 : w0.heap.size ≤ fb) (hr : ∀ g, row = some g → w0.heap.size ≤ g) : Below w0.heap.size w0 w' :=
  ⟨h.os.trans hw.os, h.tape.trans hw.tape, h.output.trans hw.output, Nat.le_trans hw.size h.size, fun k hk => (h.block k (Nat.lt_of_lt_of_le hk hw.size) (by omega) (by omega) (fun e => by have := hr k e; omega)).trans (hw.block k hk)⟩
theorem NdSt.keep (h : NdSt sb nb fb db n va N F S w) (he : ∀ k, (k = sb ∨ k = nb ∨ k = fb ∨ k = db) → k < w.heap.size → w'.heap[k]? = w.heap[k]?) : NdSt sb nb fb db n va N F S w' :=
  ⟨(he sb (by simp) (Array.getElem?_eq_some_iff.1 h.box).1).trans h.box, h.nr.keep (he nb (by simp) h.nr.lt), h.fr.keep (he fb (by simp) h.fr.lt), h.sr.keep (he db (by simp) h.sr.lt), h.ne⟩
theorem NdSt.below (h : NdSt sb nb fb db n va N F S w) (hb : Below w.heap.size w w') : NdSt sb nb fb db n va N F S w' := h.keep fun k _ hk => hb.block k hk
theorem NdSt.grown {B : Nat} (h : NdSt sb nb fb db n va N F S w) (hg : w.grownBy w' row) (hr : ∀ g, row = some g → B ≤ g) (hB : sb < B ∧ nb < B ∧ fb < B ∧ db < B) : NdSt sb nb fb db n va N F S w' :=
  h.keep fun k hk hlt => hg.block k hlt (fun e => by have := hr k e.symm; omega)
theorem NdSt.setF (h : NdSt sb nb fb db n va N F S w) {b : Nat} (v : Nat) : NdSt sb nb fb db n va N (put1 F b v) S (w.setCell ⟨fb, b, none⟩ (.int .u64 (v : Nat))) := by
  obtain ⟨h1, h2, h3, h4, h5⟩ := h.ne
  have hne : ∀ k, k ≠ fb → (w.setCell ⟨fb, b, none⟩ (.int .u64 (v : Nat))).heap[k]? = w.heap[k]? := fun k hk => heap_setCell_other w ⟨fb, b, none⟩ k _ hk
  exact ⟨(hne _ h2).trans h.box, h.nr.keep (hne _ h5), h.fr.set v, h.sr.keep (hne _ h4), h.ne⟩
theorem NdSt.setN (h : NdSt sb nb fb db n va N F S w) {b : Nat} (v : Nat) : NdSt sb nb fb db n va (put1 N b v) F S (w.setCell ⟨nb, b, none⟩ (.int .u64 (v : Nat))) := by
  obtain ⟨h1, h2, h3, h4, h5⟩ := h.ne
  have hne : ∀ k, k ≠ nb → (w.setCell ⟨nb, b, none⟩ (.int .u64 (v : Nat))).heap[k]? = w.heap[k]? := fun k hk => heap_setCell_other w ⟨nb, b, none⟩ k _ hk
  exact ⟨(hne _ h1).trans h.box, h.nr.set v, h.fr.keep (hne _ (Ne.symm h5)), h.sr.keep (hne _ h3), h.ne⟩
end
theorem own_set {w : World} {B x n : Nat} {e : TypeId} {v : Value} {xs : List Value} (h : w.ownsRow B e 1 v n xs) (hx : x < B) (i : Nat) (u : Value) : (w.setCell ⟨x, i, none⟩ u).ownsRow B e 1 v n xs :=
  World.ownsRow.kept (row := some x) h ⟨rfl, rfl, rfl, by rw [World.size_setCell]; exact Nat.le_refl _, fun k _ hne => Below.heap_setCell w ⟨x, i, none⟩ u k (fun e => hne (by rw [e]))⟩ (by
    cases hq : v.ownBlock with
    | none => exact .inl rfl
    | some q => exact .inr (fun e => by injection e with e; have := (h.lt q hq).1; omega))
theorem own_below {w w' : World} {B n : Nat} {e : TypeId} {v : Value} {xs : List Value} (h : w.ownsRow B e 1 v n xs) (hb : Below w.heap.size w w') : w'.ownsRow B e 1 v n xs :=
  World.ownsRow.kept (row := none) h ⟨hb.os, hb.tape, hb.output, hb.size, fun k hk _ => hb.block k hk⟩ (by cases hq : v.ownBlock <;> simp)
theorem news_one {w : World} {x : Int} {H : Nat} {t : TypeId} (hH : w.heap.size = H) : ∀ j u, [Value.int .i64 x][j]? = some u → (w.alloc (.cells #[.int .i64 x] t)).cell? ((⟨H, 0, none⟩ : Addr).add j) = some u := by
  subst hH
  intro j u hj
  cases j with
  | zero =>
    injection hj with hj
    subst hj
    exact (Graph.cell_of_block (Graph.heap_new w _) (k := 0) rfl).1
  | succ j => simp at hj
theorem nodup_len : ∀ {l s : List Nat}, l.Nodup → (∀ x ∈ l, x ∈ s) → l.length ≤ s.length
  | [], s, _, _ => Nat.zero_le _
  | a :: t, s, hn, h => by
    obtain ⟨h1, h2⟩ := List.nodup_cons.1 hn
    have ha := h a (List.mem_cons_self ..)
    have := nodup_len (l := t) (s := s.erase a) h2 fun x hx => (List.mem_erase_of_ne (fun e => h1 (by rw [← e]; exact hx))).2 (h x (List.mem_cons_of_mem _ hx))
    rw [List.length_erase_of_mem ha] at this
    have := List.length_pos_of_mem ha
    simp only [List.length_cons]; omega
theorem Sp.len {g : PGr} {n w : Nat} {U S : Nat → Nat} {A : Nat → List Nat} {N F : Nat → Nat} {Q : List Nat} {X : Nat → Nat → Nat → Prop} (h : Sp g n w U S A N F Q X) : Q.length ≤ n := by
  have := nodup_len (s := List.range n) h.nd fun x hx => List.mem_range.2 ((h.q x).1 hx).1
  rwa [List.length_range] at this
end Go.Proofs.YtcijaaiopfbffaaDoor.Live
