/- What of a function is no block's: the program's head. -/
import Derived.Test.YthaombggdchgbaaGh
namespace Go.Proofs.Ythaombggdchgbaa.Graph
open Go.RowKit

theorem below2 (w : World) (a b : Obj) : Below w.heap.size w ((w.alloc a).alloc b) := (below_alloc w a).alloc (below_alloc w a).size b
theorem below_then {w w2 w3 : World} (h : Below w.heap.size w w2) (k : Below w2.heap.size w2 w3) : Below w.heap.size w w3 := h.trans (k.mono h.size)
def headQ (pb ab : Bool) (m : Int) (n : Nat) (s : Int) : Int :=
  if !(decide (0 ≤ m) && decide (m ≤ 8000) && pb) then 51 else if !ab then 52 else if !(decide (1 ≤ n) && decide (n ≤ 20000) && decide (s ≤ 40000)) then 50 else 0
section
variable {pb ab : Bool} {m s : Int} {n : Nat}
theorem headQ_m (h : m < 0) : headQ pb ab m n s = 51 := by unfold headQ; rw [decide_eq_false (show ¬ 0 ≤ m by omega)]; rfl
theorem headQ_m2 (h : 8000 < m) : headQ pb ab m n s = 51 := by unfold headQ; rw [decide_eq_false (show ¬ m ≤ 8000 by omega), Bool.and_false]; rfl
theorem headQ_p (h : (m < 0 ∨ 8000 < m) ∨ (!pb) = true) : headQ pb ab m n s = 51 := by
  rcases h with (h | h) | h
  · exact headQ_m h
  · exact headQ_m2 h
  · unfold headQ; cases pb <;> simp_all
theorem headQ_a (h : (0 ≤ m ∧ m ≤ 8000) ∧ (!pb) = false) (h2 : (!ab) = true) : headQ pb ab m n s = 52 := by
  unfold headQ; cases pb <;> cases ab <;> simp_all
theorem headQ_in (h : (0 ≤ m ∧ m ≤ 8000) ∧ (!pb) = false) (h2 : (!ab) = false) : headQ pb ab m n s = if !(decide (1 ≤ n) && decide (n ≤ 20000) && decide (s ≤ 40000)) then 50 else 0 := by
  unfold headQ; cases pb <;> cases ab <;> simp_all
theorem headQ_n (h : (0 ≤ m ∧ m ≤ 8000) ∧ (!pb) = false) (h2 : (!ab) = false) (h3 : n = 0) : headQ pb ab m n s = 50 := by rw [headQ_in h h2]; simp [h3]
theorem headQ_n2 (h : (0 ≤ m ∧ m ≤ 8000) ∧ (!pb) = false) (h2 : (!ab) = false) (h3 : (((n : Int) == 0) = true) ∨ 20000 < (n : Int)) : headQ pb ab m n s = 50 := by
  rw [headQ_in h h2, if_pos]
  rcases h3 with h3 | h3
  · have : n = 0 := by simpa using h3
    simp [this]
  · rw [decide_eq_false (show ¬ n ≤ 20000 by omega)]; simp
theorem headQ_s (h : (0 ≤ m ∧ m ≤ 8000) ∧ (!pb) = false) (h2 : (!ab) = false) (h4 : 40000 < s) : headQ pb ab m n s = 50 := by
  rw [headQ_in h h2, decide_eq_false (show ¬ s ≤ 40000 by omega)]; simp
theorem headQ_0 (h : (0 ≤ m ∧ m ≤ 8000) ∧ (!pb) = false) (h2 : (!ab) = false) (h3 : ¬ n = 0) (h5 : ((n : Int) == 0) = false ∧ (n : Int) ≤ 20000) (h4 : s ≤ 40000) : headQ pb ab m n s = 0 := by
  rw [headQ_in h h2, decide_eq_true (show 1 ≤ n by omega), decide_eq_true (show n ≤ 20000 by omega), decide_eq_true h4]; rfl
end
set_option maxHeartbeats 4000000 in
set_option maxRecDepth 100000 in
theorem head_any (M : PMod) (vg vr vf : Value) (x : PGr) (vp va vb : Value) (w : World) (hM : ModL w vg vr vf M) (h : GrL w vp va vb x) :
    Calls Try.prog 15 #[modV M vg vr vf, grV x vp va vb] w (Is (.int .i64 (headE M x)) w) := by
  have h1 := fun (wr : World) (hb : Below w.heap.size w wr) => paramsMayBe_any x vp va vb wr (h.below hb)
  have h2 := fun (wr : World) (hb : Below w.heap.size w wr) => arraysMayBe_any M vg vr vf x vp va vb wr (hM.below hb) (h.below hb)
  have h3 := fun (wr : World) (hb : Below w.heap.size w wr) => count_any x vp va vb wr (h.below hb)
  obtain ⟨gp, gc, rfl⟩ := hM.globals.form
  obtain ⟨rp, rc, rfl⟩ := hM.arrays.form
  obtain ⟨fp, fc, rfl⟩ := hM.funcs.form
  obtain ⟨pp, pc, rfl⟩ := h.params.form
  obtain ⟨ap, ac, rfl⟩ := h.arrays.form
  have hlen : x.blocks.length ≤ 9223372036854775807 := by
    rcases h.blocks with ⟨h0, _⟩ | ⟨_, _, _, _, _, hc, _⟩
    · omega
    · omega
  obtain ⟨bp, bc, rfl⟩ := h.blocks.form
  have hE : headE M x = headQ (parB x.params x.temps) (arraysB M x) x.temps x.blocks.length (codeW x.blocks) := by
    unfold headE ownB parB blocksB headQ
    simp only [Bool.and_assoc]
  unfold countV at h3
  unfold modV grV at *
  obtain ⟨e, he⟩ : ∃ e, e = headE M x := ⟨_, rfl⟩
  rw [← he] at hE ⊢
  obtain ⟨pb, hpb⟩ : ∃ b, b = parB x.params x.temps := ⟨_, rfl⟩
  obtain ⟨ab, hab⟩ : ∃ b, b = arraysB M x := ⟨_, rfl⟩
  obtain ⟨m, hm⟩ : ∃ m, m = x.temps := ⟨_, rfl⟩
  obtain ⟨n, hn⟩ : ∃ n, n = x.blocks.length := ⟨_, rfl⟩
  obtain ⟨s, hs⟩ : ∃ s, s = codeW x.blocks := ⟨_, rfl⟩
  rw [← hpb] at h1 hE
  rw [← hab] at h2 hE
  rw [← hs] at h3 hE
  rw [← hm] at h1 h2 h3 hE
  rw [← hn] at h1 h2 h3 hE hlen
  rw [← hm, ← hn]
  have H1 := Lib.hid h1
  have H2 := Lib.hid h2
  have H3 := Lib.hid h3
  have HE := Lib.hid hE
  have hlen2 : (n : Int) ≤ 9223372036854775807 := by omega
  have hlen3 : (0 : Int) ≤ n := by omega
  clear h hM h1 h2 h3 hE hpb hab hm hn hs he hlen
  go_enter Try.func15, Try.ntmps15
  go_wp2_with (first
    | (go_at_call 32; refine (H1.out _ (below2 w _ _)).mono ?_; rintro e w2 ⟨rfl, h2⟩; have HB2 := Lib.hid (below_then (below2 w _ _) h2)
       have B1 : Box4 w2 w.heap.size (.slice gp M.globals.length gc) (.slice rp M.arrays.length rc) (.slice fp M.funcs.length fc) (.int .i64 M.main) := Box4.below ⟨by go_simp, by go_simp, by go_simp, by go_simp, by go_simp⟩ h2
       have B2 : Box4 w2 (w.heap.size + 1) (.slice pp x.params.length pc) (.int .i64 m) (.slice ap x.arrays.length ac) (.slice bp n bc) := Box4.below ⟨by go_simp, by go_simp, by go_simp, by go_simp, by go_simp⟩ h2
       have HX1 := Lib.hid B1; have HX2 := Lib.hid B2; obtain ⟨y0, y1, y2, y3, y4⟩ := B1; obtain ⟨z0, z1, z2, z3, z4⟩ := B2; clear h2)
    | (go_at_call 33; refine (H2.out _ HB2.out).mono ?_; rintro e w3 ⟨rfl, h3⟩; have HB3 := Lib.hid (below_then HB2.out h3); have HX3 := Lib.hid (HX1.out.below h3); have HX4 := Lib.hid (HX2.out.below h3)
       obtain ⟨z0, z1, z2, z3, z4⟩ := HX4.out; clear h3)
    | (go_at_call 34; refine (H3.out _ HB3.out).mono ?_; rintro e w4 ⟨rfl, h4⟩; have HB4 := Lib.hid (below_then HB3.out h4); clear h4))
  all_goals (go_ret; refine ⟨?_, ?_⟩)
  all_goals first
    | exact HB4.out
    | exact HB3.out
    | exact HB2.out
    | exact below2 w _ _
    | (rw [HE.out]; first
        | (rw [headQ_m (by assumption)]; rfl)
        | (rw [headQ_m2 (by assumption)]; rfl)
        | (rw [headQ_p (by assumption)]; rfl)
        | (rw [headQ_a (by assumption) (by assumption)]; rfl)
        | (rw [headQ_n (by assumption) (by assumption) (by assumption)]; rfl)
        | (rw [headQ_n2 (by assumption) (by assumption) (by assumption)]; rfl)
        | (rw [headQ_s (by assumption) (by assumption) (by assumption)]; rfl)
        | (rw [headQ_0 (by assumption) (by assumption) (by assumption) (by assumption) (by assumption)]; rfl))
end Go.Proofs.Ythaombggdchgbaa.Graph
