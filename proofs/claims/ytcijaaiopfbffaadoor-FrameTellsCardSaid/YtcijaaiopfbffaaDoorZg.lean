/- What look.use does: a temp that is used ahead of being set is put in. No condition but that the temp is one. -/
import Derived.Test.YtcijaaiopfbffaaDoorZf
import Derived.Test.YtcijaaiopfbffaaDoorZd
namespace Go.Proofs.YtcijaaiopfbffaaDoor.Live
open Go.RowKit Go.Proofs.YtcijaaiopfbffaaDoor.Graph

/-- A row of sets. -/
def SetsAt (w : World) (g n : Nat) (U : Nat → Nat → Nat) : Prop :=
  ∃ cs, w.heap[g]? = some (.cells cs 73 (0, 0)) ∧ cs.size = n * 125 ∧ ∀ b k, b < n → k < 125 → cs[b * 125 + k]? = some (.int .u64 (U b k : Nat))
section
variable {w w' : World} {g n : Nat} {U : Nat → Nat → Nat}
theorem SetsAt.lt (h : SetsAt w g n U) : g < w.heap.size := by
  obtain ⟨cs, h1, _⟩ := h
  exact (Array.getElem?_eq_some_iff.1 h1).1
theorem SetsAt.cell (h : SetsAt w g n U) {b k : Nat} (hb : b < n) (hk : k < 125) : w.cell? ⟨g, b * 125 + k, none⟩ = some (.int .u64 (U b k : Nat)) := by
  obtain ⟨cs, h1, _, h3⟩ := h
  simp [World.cell?, h1, h3 b k hb hk]
theorem SetsAt.frozen (h : SetsAt w g n U) (k : Nat) : w.frozen? ⟨g, k, none⟩ = false := by
  obtain ⟨cs, h1, _⟩ := h
  simp [World.frozen?, h1]
theorem SetsAt.keep (h : SetsAt w g n U) (he : w'.heap[g]? = w.heap[g]?) : SetsAt w' g n U := by
  obtain ⟨cs, h1, h2⟩ := h
  exact ⟨cs, he.trans h1, h2⟩
theorem SetsAt.congr {V : Nat → Nat → Nat} (h : SetsAt w g n U) (he : ∀ b k, b < n → k < 125 → U b k = V b k) : SetsAt w g n V := by
  obtain ⟨cs, h1, h2, h3⟩ := h
  exact ⟨cs, h1, h2, fun b k hb hk => by rw [h3 b k hb hk, he b k hb hk]⟩
theorem SetsAt.set (h : SetsAt w g n U) {b k : Nat} (hb : b < n) (hk : k < 125) (v : Nat) : SetsAt (w.setCell ⟨g, b * 125 + k, none⟩ (.int .u64 (v : Nat))) g n (fun c j => if c = b ∧ j = k then v else U c j) := by
  obtain ⟨cs, h1, h2, h3⟩ := h
  refine ⟨_, heap_setCell_same w g _ _ _ _ h1, by simpa using h2, fun c j hc hj => ?_⟩
  by_cases e : c = b ∧ j = k
  · obtain ⟨rfl, rfl⟩ := e
    have h4 := h3 c j hc hj
    have h5 := (Array.getElem?_eq_some_iff.1 h4).1
    rw [Array.getElem?_setIfInBounds_self_of_lt h5]
    simp
  · rw [Array.getElem?_setIfInBounds_ne (by
      intro e2
      have : b = c := by omega
      exact e ⟨this.symm, by omega⟩)]
    simp only [if_neg e]
    exact h3 c j hc hj
end
/-- Whatever lay stays, but for two blocks. -/
structure Turn (x y : Nat) (w w' : World) : Prop where
  os : w'.os = w.os
  tape : w'.tape = w.tape
  output : w'.output = w.output
  size : w.heap.size ≤ w'.heap.size
  block : ∀ k, k < w.heap.size → k ≠ x → k ≠ y → w'.heap[k]? = w.heap[k]?
theorem Turn.refl (x y : Nat) (w : World) : Turn x y w w := ⟨rfl, rfl, rfl, Nat.le_refl _, fun _ _ _ _ => rfl⟩
theorem Turn.trans {x y : Nat} {a b c : World} (h : Turn x y a b) (k : Turn x y b c) : Turn x y a c :=
  ⟨k.os.trans h.os, k.tape.trans h.tape, k.output.trans h.output, Nat.le_trans h.size k.size, fun i hi h1 h2 => (k.block i (Nat.lt_of_lt_of_le hi h.size) h1 h2).trans (h.block i hi h1 h2)⟩
theorem Turn.of_below {x y : Nat} {w w' : World} (h : Below w.heap.size w w') : Turn x y w w' := ⟨h.os, h.tape, h.output, h.size, fun k hk _ _ => h.block k hk⟩
theorem Turn.set {x y : Nat} (w : World) {p : Addr} (hp : p.block = x ∨ p.block = y) (v : Value) : Turn x y w (w.setCell p v) :=
  ⟨rfl, rfl, rfl, by rw [World.size_setCell]; exact Nat.le_refl _, fun k _ h1 h2 => Below.heap_setCell w p v k (fun e => by rcases hp with h | h <;> omega)⟩
theorem Turn.setL (x y i : Nat) (w : World) (v : Value) : Turn x y w (w.setCell ⟨x, i, none⟩ v) := Turn.set (p := ⟨x, i, none⟩) w (.inl rfl) v
theorem Turn.setR (x y i : Nat) (w : World) (v : Value) : Turn x y w (w.setCell ⟨y, i, none⟩ v) := Turn.set (p := ⟨y, i, none⟩) w (.inr rfl) v
theorem Turn.below {Z x y : Nat} {w0 w w' : World} (h : Turn x y w w') (hb : Below Z w0 w) (hx : Z ≤ x) (hy : Z ≤ y) (hz : Z ≤ w.heap.size) : Below Z w0 w' :=
  ⟨h.os.trans hb.os, h.tape.trans hb.tape, h.output.trans hb.output, Nat.le_trans hb.size h.size, fun k hk => (h.block k (by omega) (by omega) (by omega)).trans (hb.block k hk)⟩
/-- What lookAt builds, as it lies: what the blocks say so far. -/
structure LookSt (lb ub db n : Nat) (va : Value) (L : Nat → Look) (w : World) : Prop where
  look : w.heap[lb]? = some (.cells #[.slice (some ⟨ub, 0, none⟩) n n, .slice (some ⟨db, 0, none⟩) n n, va] 98 (0, 0))
  us : SetsAt w ub n (fun b => (L b).u)
  ds : SetsAt w db n (fun b => (L b).d)
  ne : ub ≠ db ∧ lb ≠ ub ∧ lb ≠ db
section
variable {w w' : World} {lb ub db n : Nat} {va : Value} {L : Nat → Look}
theorem LookSt.keep (h : LookSt lb ub db n va L w) (hb : Below w.heap.size w w') : LookSt lb ub db n va L w' := by
  have h1 := (Array.getElem?_eq_some_iff.1 h.look).1
  exact ⟨(hb.block _ h1).trans h.look, h.us.keep (hb.block _ h.us.lt), h.ds.keep (hb.block _ h.ds.lt), h.ne⟩
theorem LookSt.same (h : LookSt lb ub db n va L w) {b : Nat} {M : Look} (e : L b = M) : LookSt lb ub db n va (fun k => if k = b then M else L k) w :=
  ⟨h.look, h.us.congr fun c k _ _ => by
      by_cases e2 : c = b
      · subst e2; simp only [if_true]; rw [e]
      · simp only [e2, if_false], h.ds.congr fun c k _ _ => by
      by_cases e2 : c = b
      · subst e2; simp only [if_true]; rw [e]
      · simp only [e2, if_false], h.ne⟩
theorem LookSt.addU (h : LookSt lb ub db n va L w) {b t : Nat} (hb : b < n) (ht : t < 8000) :
    LookSt lb ub db n va (fun k => if k = b then { L b with u := addW (L b).u t } else L k) (w.setCell ⟨ub, b * 125 + t / 64, none⟩ (.int .u64 (addW (L b).u t (t / 64) : Nat))) := by
  have hne : ∀ k, k ≠ ub → (w.setCell ⟨ub, b * 125 + t / 64, none⟩ (.int .u64 (addW (L b).u t (t / 64) : Nat))).heap[k]? = w.heap[k]? := fun k hk => heap_setCell_other w ⟨ub, b * 125 + t / 64, none⟩ k _ hk
  refine ⟨(hne _ h.ne.2.1).trans h.look, (h.us.set hb (show t / 64 < 125 by omega) _).congr fun c k _ _ => ?_, (h.ds.keep (hne _ h.ne.1.symm)).congr fun c k _ _ => ?_, h.ne⟩
  · by_cases e : c = b
    · subst e
      by_cases e2 : k = t / 64
      · subst e2; simp
      · simp only [e2, and_false, if_false, if_true]
        unfold addW; rw [if_neg e2]
    · simp only [e, false_and, if_false]
  · by_cases e : c = b
    · subst e; simp
    · simp only [e, if_false]
theorem LookSt.addD (h : LookSt lb ub db n va L w) {b t : Nat} (hb : b < n) (ht : t < 8000) :
    LookSt lb ub db n va (fun k => if k = b then { L b with d := addW (L b).d t } else L k) (w.setCell ⟨db, b * 125 + t / 64, none⟩ (.int .u64 (addW (L b).d t (t / 64) : Nat))) := by
  have hne : ∀ k, k ≠ db → (w.setCell ⟨db, b * 125 + t / 64, none⟩ (.int .u64 (addW (L b).d t (t / 64) : Nat))).heap[k]? = w.heap[k]? := fun k hk => heap_setCell_other w ⟨db, b * 125 + t / 64, none⟩ k _ hk
  refine ⟨(hne _ h.ne.2.2).trans h.look, (h.us.keep (hne _ h.ne.1)).congr fun c k _ _ => ?_, (h.ds.set hb (show t / 64 < 125 by omega) _).congr fun c k _ _ => ?_, h.ne⟩
  · by_cases e : c = b
    · subst e; simp
    · simp only [e, if_false]
  · by_cases e : c = b
    · subst e
      by_cases e2 : k = t / 64
      · subst e2; simp
      · simp only [e2, and_false, if_false, if_true]
        unfold addW; rw [if_neg e2]
    · simp only [e, false_and, if_false]
/-- Behind a step at block b. -/
def LookPost (lb ub db n : Nat) (va : Value) (L : Nat → Look) (b : Nat) (M : Look) (w : World) (e : Ending) (w' : World) : Prop :=
  e = .returned (.tuple #[]) ∧ LookSt lb ub db n va (fun k => if k = b then M else L k) w' ∧ Turn ub db w w'
set_option maxHeartbeats 4000000 in
set_option maxRecDepth 100000 in
theorem use_any (h : LookSt lb ub db n va L w) (hl : ∀ k, (L k).Lt) {b : Nat} (hb : b < n) (hn : n ≤ 20000) {t : Int} (ht : 0 ≤ t ∧ t < 8000) :
    Calls Tryd.prog 73 #[.pointer (some ⟨lb, 0, none⟩), .int .i64 (b : Int), .int .i64 t] w (LookPost lb ub db n va L b ((L b).use t) w) := by
  obtain ⟨k, rfl⟩ := Int.eq_ofNat_of_zero_le ht.1
  have hk : k < 8000 := by omega
  have hk2 : k / 64 < 125 := by omega
  have c1 : w.cell? ⟨lb, 1, none⟩ = some (.slice (some ⟨db, 0, none⟩) n n) := by simp [World.cell?, h.look]
  have c0 : w.cell? ⟨lb, 0, none⟩ = some (.slice (some ⟨ub, 0, none⟩) n n) := by simp [World.cell?, h.look]
  have HH := Lib.hid (has_any db (b * 125) k (L b).d w hk ((hl b).d _) (h.ds.cell hb hk2))
  have HA := Lib.hid (add_any ub (b * 125) k (L b).u w hk ((hl b).u _) (h.us.cell hb hk2) (h.us.frozen _))
  have hbi : (b : Int) < n := by omega
  have hb0 : (0 : Int) ≤ b := by omega
  have hni : (n : Int) ≤ 20000 := by omega
  cases hq : hasW (L b).d k with
  | true =>
    have hu : (L b).use (k : Int) = L b := by unfold Look.use; rw [Int.toNat_natCast, hq, if_pos rfl]
    rw [hu]
    have HS := Lib.hid (h.same (b := b) rfl)
    rw [hq] at HH
    clear h hl HA hu hq
    go_enter Tryd.func73, Tryd.ntmps73
    go_wp2_with (go_at_call 87; refine HH.out.mono ?_; rintro e w1 ⟨rfl, rfl⟩)
    go_end0
    exact ⟨rfl, HS.out, Turn.refl _ _ _⟩
  | false =>
    have hu : (L b).use (k : Int) = { L b with u := addW (L b).u k } := by unfold Look.use; rw [Int.toNat_natCast, hq, if_neg (by simp)]
    rw [hu]
    have HS := Lib.hid (h.addU hb hk)
    rw [hq] at HH
    clear h hl hu hq
    go_enter Tryd.func73, Tryd.ntmps73
    go_wp2_with (first
      | (go_at_call 87; refine HH.out.mono ?_; rintro e w1 ⟨rfl, rfl⟩)
      | (go_at_call 74; refine HA.out.mono ?_; rintro e w1 ⟨rfl, rfl⟩))
    go_end0
    exact ⟨rfl, HS.out.keep (Below.refl _ _).drew, (Turn.setL _ _ _ _ _).trans (Turn.of_below (Below.refl _ _).drew)⟩
end
end Go.Proofs.YtcijaaiopfbffaaDoor.Live
