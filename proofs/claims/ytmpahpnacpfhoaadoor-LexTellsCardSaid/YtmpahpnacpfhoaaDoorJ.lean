/- lex.Lex for every text, and the law's own example. -/
import Derived.Test.YtmpahpnacpfhoaaDoorI
namespace Go.Proofs.YtmpahpnacpfhoaaDoor
open Go.RowKit

theorem lex_any (s : ByteArray) (w : World) (hr : Rdy w) : Calls Tryd.prog 11 #[.string s] w fun e w' => LexEnd w (lexAll s.data.toList) e w' := by
  unfold lexAll
  by_cases h : s.size ≤ 20000
  · rw [if_neg (by rw [← Lib.size_eq]; omega)]
    exact lex_short s w h hr
  · rw [if_pos (by rw [← Lib.size_eq]; omega)]
    refine (lex_long s w (by omega)).mono ?_
    rintro e w' ⟨he, rfl⟩
    exact LexEnd.err he (Below.refl _ _)

/-- What a caller reads of the tokens: the slice's form, and each field of each token. -/
def Toks (w : World) (B : Nat) (v : Value) (ts : List PTok) : Prop :=
  (ts = [] ∧ ∃ ao cv, v = .slice ao 0 cv) ∨ ∃ g cap, v = .slice (some ⟨g, 0, none⟩) ts.length cap ∧ B ≤ g ∧ ts.length ≤ cap ∧ g < w.heap.size ∧ ts ≠ [] ∧
    ∀ (k : Nat) (t : PTok), ts[k]? = some t → w.cell? ⟨g, k * 5, none⟩ = some (.int .i64 t.1.kind) ∧ w.cell? ⟨g, k * 5 + 1, none⟩ = some (.int .i64 t.2) ∧ w.cell? ⟨g, k * 5 + 2, none⟩ = some (.string ⟨t.1.text.toArray⟩) ∧
      w.cell? ⟨g, k * 5 + 3, none⟩ = some (.int .u32 t.1.num) ∧ w.cell? ⟨g, k * 5 + 4, none⟩ = some (.bool t.1.uns)

theorem row_at : ∀ (ts : List PTok) (k : Nat) (t : PTok), ts[k]? = some t → ∀ j, j < 5 → (rowOf ts)[k * 5 + j]? = (tokCells t)[j]? := by
  intro ts
  induction ts with
  | nil => intro k t h; simp at h
  | cons x ts ih =>
    intro k t h j hj
    have hx : (tokCells x).length = 5 := rfl
    have hr : rowOf (x :: ts) = tokCells x ++ rowOf ts := by simp [rowOf]
    rw [hr]
    cases k with
    | zero =>
      simp at h; subst h
      rw [List.getElem?_append_left (by omega)]
      simp
    | succ k =>
      rw [List.getElem?_append_right (by omega), hx, show (k + 1) * 5 + j - 5 = k * 5 + j by omega]
      exact ih k t (by simpa using h) j hj
theorem row_len (ts : List PTok) : (rowOf ts).length = ts.length * 5 := by
  induction ts with
  | nil => rfl
  | cons x ts ih =>
    have hr : rowOf (x :: ts) = tokCells x ++ rowOf ts := by simp [rowOf]
    have hx : (tokCells x).length = 5 := rfl
    rw [hr, List.length_append, ih, hx, List.length_cons]; omega
theorem TokRow.toks {w : World} {B : Nat} {v : Value} {ts : List PTok} (h : TokRow w B v ts) : Toks w B v ts := by
  cases ts with
  | nil =>
    left
    refine ⟨rfl, ?_⟩
    rcases h.2 with ⟨h1, _⟩ | ⟨g, cap, cur, h1, h2, h3, h4, h5, h6, h7⟩
    · exact ⟨none, 0, h1⟩
    · exact ⟨_, _, h1⟩
  | cons x ts =>
    right
    rcases h.2 with ⟨_, h1⟩ | ⟨g, cap, cur, rfl, h2, h3, h4, h5, h6, h7⟩
    · simp at h1
    · refine ⟨g, cap, rfl, h2, h4, (Array.getElem?_eq_some_iff.1 h3).1, by simp, ?_⟩
      intro k t hk
      have hlt : k < (x :: ts).length := (List.getElem?_eq_some_iff.1 hk).1
      have hc := fun j (hj : j < 5) => (World.ownsRow.cellAt h (k * 5 + j) (by omega)).trans (row_at _ k t hk j hj)
      exact ⟨hc 0 (by omega), hc 1 (by omega), hc 2 (by omega), hc 3 (by omega), hc 4 (by omega)⟩
theorem Toks.below {w w' : World} {B : Nat} {v : Value} {ts : List PTok} (h : Toks w B v ts) (hb : Below w.heap.size w w') : Toks w' B v ts := by
  rcases h with h | ⟨g, cap, h1, h2, h3, h4, h5, h6⟩
  · exact .inl h
  · refine .inr ⟨g, cap, h1, h2, h3, Nat.lt_of_lt_of_le h4 hb.size, h5, fun k t hk => ?_⟩
    obtain ⟨a, b, c, d, e⟩ := h6 k t hk
    exact ⟨(hb.cell (p := ⟨g, _, none⟩) h4).trans a, (hb.cell (p := ⟨g, _, none⟩) h4).trans b, (hb.cell (p := ⟨g, _, none⟩) h4).trans c, (hb.cell (p := ⟨g, _, none⟩) h4).trans d, (hb.cell (p := ⟨g, _, none⟩) h4).trans e⟩

theorem exL : lexAll [97, 43, 43, 43, 48, 120, 49, 70, 117] =
    ([(⟨1, [97], 0, false⟩, 0), (⟨4, [43, 43], 0, false⟩, 1), (⟨4, [43], 0, false⟩, 3), (⟨2, [], 31, true⟩, 4), (⟨0, [], 0, false⟩, 9)], 0, 0) := by decide +kernel

set_option maxHeartbeats 1000000 in
set_option maxRecDepth 100000 in
theorem live_any (w : World) (hr : Rdy w) : Calls Tryd.prog 14 #[] w fun e w' => e = .returned (.bool true) ∧ Below w.heap.size w w' := by
  have hL : ∀ w, Rdy w → Calls Tryd.prog 11 #[.string ⟨#[97, 43, 43, 43, 48, 120, 49, 70, 117]⟩] w fun e w' => LexEnd w (lexAll [97, 43, 43, 43, 48, 120, 49, 70, 117]) e w' := fun w hr => lex_any _ w hr
  rw [exL] at hL
  have HL := Lib.hid hL
  have HR := Lib.hid hr
  clear hL hr
  go_enter Tryd.func14, Tryd.ntmps14
  go_wp2_with fail
  refine (HL.out _ HR.out).mono ?_
  rintro e w1 ⟨v, rfl, hT, hb⟩
  rcases hT.toks with ⟨h, _⟩ | ⟨g, cap, rfl, hg, hcap, hgl, _, hc⟩
  · simp at h
  · obtain ⟨_, _, c12, _, _⟩ := hc 1 _ rfl
    obtain ⟨c30, c31, c32, c33, c34⟩ := hc 3 _ rfl
    obtain ⟨_, c41, _, _, _⟩ := hc 4 _ rfl
    have HT := Lib.hid hT
    clear hc hT
    simp only [Nat.reduceMul, Nat.reduceAdd] at c12 c30 c31 c32 c33 c34 c41
    go_wp2
    go_ret
    exact ⟨rfl, hb⟩
end Go.Proofs.YtmpahpnacpfhoaaDoor
