/- What a caller hands over, opened, at a door seat of layer relax. -/
import Derived.Test.YtmnhafncdblklaaDoorEzz
import Derived.Test.YtmnhafncdblklaaDoorQm
import Derived.Test.YtmnhafncdblklaaDoorQp
import Derived.Test.YtmnhafncdblklaaDoorRx3
import Derived.SizedLaws
namespace Go.Proofs.YtmnhafncdblklaaDoor.Relax
open Go.RowKit Go.ChangeShapes Go.WideShapes Go.ChangeAt Go.Proofs.YtmnhafncdblklaaDoor.Graph Go.Proofs.YtmnhafncdblklaaDoor.Enc

theorem laidOut : laidOutB Tryd.prog = true := by kernel_rfl
theorem wt_at {H : Type} {ts : List TypeId} {ds : List (DataW H)} (h : (DataW.weightsEach Tryd.prog ts ds).all (· ≤ reachBytes) = true) {j : Nat} {t : TypeId} {d : DataW H} (ht : ts[j]? = some t) (hd : ds[j]? = some d) : Wt t d := fun n hn => by
  simpa using List.all_eq_true.1 h _ (DataW.weights_mem_each ht hd n hn)
section
variable {H : Type} {enc : TypeId × Value → H} {w : World} {base : Nat} {sp : Nat → Bool} {held : Bool}
set_option maxRecDepth 1000000 in
theorem lines_in {r : Reach} {b0 : Nat} {v : Value} {d : DataW H} {p : List MemPlace} (hv : Value.okWide Tryd.prog w r b0 22 v) (h : DataW.Trod enc Tryd.prog w base sp held 22 v d p) (hw : Wt 22 d) :
    ∃ l, LinesR w v l ∧ SmL l ∧ ∀ x ∈ l, 0 ≤ x.n ∧ x.n ≤ 4294967295 := by
  obtain ⟨fuel, hf⟩ := h
  obtain ⟨v', l, hv', hl, hs, hn⟩ := lines_of hf hw
  obtain ⟨sp, sc, hsf⟩ := hl.form
  obtain ⟨ap, an, ac, rfl⟩ := okWide_slice Tryd.underlying22 hv
  obtain rfl : (Value.slice ap an ac) = v' := by simpa [Value.cells] using hv'
  exact ⟨l, hl, hs, hn⟩
theorem cells_bool : Tryd.prog.cellsOf 4 = 1 := by kernel_rfl
theorem bool_of {fuel : Nat} {c : Value} {y : DataW H × List MemPlace} (h : DataW.trod enc Tryd.prog w base sp held fuel 4 [c] = some y) : ∃ x, c = .bool x := by
  cases fuel with
  | zero => simp [DataW.trod] at h
  | succ fuel =>
    cases c <;> simp [DataW.trod, Tryd.underlying4] at h
    exact ⟨_, rfl⟩
set_option maxRecDepth 1000000 in
theorem bools_in {r : Reach} {b0 : Nat} {v : Value} {d : DataW H} {p : List MemPlace} (hv : Value.okWide Tryd.prog w r b0 39 v) (h : DataW.Trod enc Tryd.prog w base sp held 39 v d p) (hw : Wt 39 d) :
    ∃ l, BoolsR w v l ∧ True ∧ True := by
  obtain ⟨fuel, hf⟩ := h
  obtain ⟨v', n, hv', hs, _⟩ := open_sl Tryd.underlying39 cells_bool (by kernel_rfl : Tryd.prog.bytesOf 4 = 1) (by decide) hf hw
  obtain ⟨ap, an, ac, rfl⟩ := okWide_slice Tryd.underlying39 hv
  obtain rfl : (Value.slice ap an ac) = v' := by simpa [Value.cells] using hv'
  rcases hs with ⟨rfl, p, c, e⟩ | ⟨b, o, c, e, h1, h2, h3, h4⟩
  · exact ⟨[], .inl ⟨rfl, p, c, e⟩, trivial, trivial⟩
  · obtain ⟨l, hl, hr⟩ := choose_list (R := fun i (x : Bool) => w.cell? ⟨b, o + i * 1, none⟩ = some (.bool x)) (n := n) (fun i hi => by
      obtain ⟨ecs, g1, g2, m, z, g3, _⟩ := h4 i hi
      match ecs, g1 with
      | [c0], _ =>
        obtain ⟨x, rfl⟩ := bool_of g3
        exact ⟨x, by simpa using g2 0 (by omega)⟩)
    exact ⟨l, .inr ⟨b, o, c, by rw [hl]; exact e, by omega, by omega, h3, fun i _ x hx => hr i x hx⟩, trivial, trivial⟩
end
end Go.Proofs.YtmnhafncdblklaaDoor.Relax
