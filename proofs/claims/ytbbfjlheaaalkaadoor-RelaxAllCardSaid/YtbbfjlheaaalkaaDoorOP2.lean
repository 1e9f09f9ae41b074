/- What the program's assembler and Decode do. -/
import Derived.Test.YtbbfjlheaaalkaaDoorAW
import Derived.Test.YtbbfjlheaaalkaaDoorEzz
import Derived.Test.YtbbfjlheaaalkaaDoorQm
import Derived.Test.YtbbfjlheaaalkaaDoorLr
import Derived.SizedLaws
namespace Go.Proofs.YtbbfjlheaaalkaaDoor.Relax
open Go.RowKit Go.Proofs.YtbbfjlheaaalkaaDoor.Enc
theorem does : DoesAsm := ⟨fun l v w hl hs hF => assemble_prog l v w hl hs hF⟩
end Go.Proofs.YtbbfjlheaaalkaaDoor.Relax
namespace Go.Proofs.YtbbfjlheaaalkaaDoor.Relax
open Go.RowKit Go.ChangeShapes Go.WideShapes Go.ChangeAt Go.Proofs.YtbbfjlheaaalkaaDoor.Graph Go.Proofs.YtbbfjlheaaalkaaDoor.Enc

theorem laidOut : laidOutB Tryd.prog = true := by kernel_rfl
theorem wt_at {H : Type} {ts : List TypeId} {ds : List (DataW H)} (h : (DataW.weightsEach Tryd.prog ts ds).all (· ≤ reachBytes) = true) {j : Nat} {t : TypeId} {d : DataW H} (ht : ts[j]? = some t) (hd : ds[j]? = some d) : Wt t d := fun n hn => by
  simpa using List.all_eq_true.1 h _ (DataW.weights_mem_each ht hd n hn)
section
variable {H : Type} {enc : TypeId × Value → H} {w : World} {base : Nat} {sp : Nat → Bool} {held : Bool}
set_option maxRecDepth 1000000 in
theorem lines_in {r : Reach} {b0 : Nat} {v : Value} {d : DataW H} {p : List MemPlace} (hv : Value.okWide Tryd.prog w r b0 22 v) (h : DataW.Trod enc Tryd.prog w base sp held 22 v d p) (hw : Wt 22 d) :
    ∃ l, LinesR w v l ∧ SmL l ∧ ∀ x ∈ l, 0 ≤ x.n ∧ x.n ≤ 4294967295 := by
  obtain ⟨fuel, hf⟩ := h
  obtain ⟨v', l, hv', hl, hs, hn⟩ := lines_of hf hw
  obtain ⟨sp, sc, hsf⟩ := hl.form
  obtain ⟨ap, an, ac, rfl⟩ := okWide_slice Tryd.underlying22 hv
  obtain rfl : (Value.slice ap an ac) = v' := by simpa [Value.cells] using hv'
  exact ⟨l, hl, hs, hn⟩
end
end Go.Proofs.YtbbfjlheaaalkaaDoor.Relax
namespace Go.Proofs.YtbbfjlheaaalkaaDoor.Relax
open Go.RowKit Go.ChangeShapes Go.WideShapes Go.ChangeAt Go.Proofs.YtbbfjlheaaalkaaDoor.Graph Go.Proofs.YtbbfjlheaaalkaaDoor.Enc

section
variable {H : Type} {enc : TypeId × Value → H} {w : World} {base : Nat} {sp : Nat → Bool} {held : Bool}
set_option maxRecDepth 1000000 in
theorem int_of9 {fuel : Nat} {c : Value} {y : DataW H × List MemPlace} (h : DataW.trod enc Tryd.prog w base sp held fuel 3 [c] = some y) : ∃ x, c = .int .i64 x ∧ (-9223372036854775808 ≤ x ∧ x ≤ 9223372036854775807) := by
  cases fuel with
  | zero => simp [DataW.trod] at h
  | succ fuel =>
    cases c <;> simp [DataW.trod, Tryd.underlying3] at h
    obtain ⟨⟨rfl, h1⟩, _⟩ := h
    exact ⟨_, rfl, bounds_i64 h1⟩
set_option maxRecDepth 1000000 in
theorem ints_of9 {fuel : Nat} {cs : List Value} {y : DataW H × List MemPlace} (h : DataW.trod enc Tryd.prog w base sp held fuel 25 cs = some y) (hw : Wt 25 y.1) : ∃ v l, cs = [v] ∧ IntsR w v l ∧ l.length * 8 ≤ reachBytes ∧ ∀ x ∈ l, -9223372036854775808 ≤ x ∧ x ≤ 9223372036854775807 := by
  obtain ⟨v, n, rfl, hs, hby⟩ := open_sl Tryd.underlying25 cells_i64 (by kernel_rfl : Tryd.prog.bytesOf 3 = 8) (by decide) h hw
  rcases hs with ⟨rfl, p, c, rfl⟩ | ⟨b, o, c, rfl, h1, h2, h3, h4⟩
  · exact ⟨_, [], rfl, .inl ⟨rfl, p, c, rfl⟩, by simp, fun x hx => absurd hx List.not_mem_nil⟩
  · obtain ⟨l, hl, hr⟩ := choose_list (R := fun i (x : Int) => w.cell? ⟨b, o + i * 1, none⟩ = some (.int .i64 x) ∧ (-9223372036854775808 ≤ x ∧ x ≤ 9223372036854775807)) (n := n) (fun i hi => by
      obtain ⟨ecs, g1, g2, m, z, g3, _⟩ := h4 i hi
      match ecs, g1 with
      | [c0], _ =>
        obtain ⟨x, rfl, hx⟩ := int_of9 g3
        exact ⟨x, by simpa using g2 0 (by omega), hx⟩)
    exact ⟨_, l, rfl, .inr ⟨b, o, c, by rw [hl], by omega, by omega, h3, fun i _ x hx => (hr i x hx).1⟩, by rw [hl]; exact hby, fun x hx => by
      obtain ⟨i, hi, e⟩ := List.mem_iff_getElem.1 hx
      exact (hr i x (by rw [List.getElem?_eq_getElem hi, e])).2⟩
theorem ints_in {r : Reach} {b0 : Nat} {v : Value} {d : DataW H} {p : List MemPlace} (hv : Value.okWide Tryd.prog w r b0 25 v) (h : DataW.Trod enc Tryd.prog w base sp held 25 v d p) (hw : Wt 25 d) :
    ∃ l, IntsR w v l ∧ l.length * 8 ≤ reachBytes ∧ ∀ x ∈ l, -9223372036854775808 ≤ x ∧ x ≤ 9223372036854775807 := by
  obtain ⟨fuel, hf⟩ := h
  obtain ⟨v', l, hv', hl, hs, hn⟩ := ints_of9 hf hw
  obtain ⟨ap, an, ac, rfl⟩ := okWide_slice Tryd.underlying25 hv
  obtain rfl : (Value.slice ap an ac) = v' := by simpa [Value.cells] using hv'
  exact ⟨l, hl, hs, hn⟩
end
end Go.Proofs.YtbbfjlheaaalkaaDoor.Relax
