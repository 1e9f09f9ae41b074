/- What is wrong with a line; the labels it goes to: the program's own answers. No condition but that lists lie as they say. -/
import Derived.Test.YtmnhafncdblklaaDoorAg
namespace Go.Proofs.YtmnhafncdblklaaDoor.Relax
open Go.RowKit Go.Proofs.YtmnhafncdblklaaDoor.Enc Go.Proofs.YtmnhafncdblklaaDoor.Graph Go.Maps

theorem wrongL_ok {x : PL} (h1 : 0 ≤ x.op) (h2 : x.op ≤ 48) : wrongL x = if operandsB x && labelFitsB x && listFitsB x && (x.n == 0 || x.op == 2) then 0 else 171 := by
  unfold wrongL
  rw [if_neg (by omega), may_parts x h1 h2]
theorem keep_box {w w1 w2 : World} {k : Nat} {v : Value} (hb : Below w1.heap.size w1 w2) (hl : w.heap.size < w1.heap.size) (h : w1.cell? ⟨w.heap.size, k, none⟩ = some v) : w2.cell? ⟨w.heap.size, k, none⟩ = some v :=
  (hb.cell (p := ⟨w.heap.size, k, none⟩) hl).trans h
/-- A line's box. -/
structure BoxL (w wr : World) (x : PL) (v : Value) : Prop where
  b : Below w.heap.size w wr
  sz : w.heap.size < wr.heap.size
  c0 : wr.cell? ⟨w.heap.size, 0, none⟩ = some (.int .i64 x.op)
  c1 : wr.cell? ⟨w.heap.size, 1, none⟩ = some (.int .i64 x.a)
  c2 : wr.cell? ⟨w.heap.size, 2, none⟩ = some (.int .i64 x.b)
  c3 : wr.cell? ⟨w.heap.size, 3, none⟩ = some (.int .i64 x.imm)
  c4 : wr.cell? ⟨w.heap.size, 4, none⟩ = some (.int .u32 x.n)
  c5 : wr.cell? ⟨w.heap.size, 5, none⟩ = some (.int .i64 x.label)
  c6 : wr.cell? ⟨w.heap.size, 6, none⟩ = some v
theorem BoxL.start (w : World) (t : TypeId) (x : PL) (v : Value) : BoxL w (w.alloc (.cells #[.int .i64 x.op, .int .i64 x.a, .int .i64 x.b, .int .i64 x.imm, .int .u32 x.n, .int .i64 x.label, v] t)) x v := by
  refine ⟨below_one w _, by simp, ?_, ?_, ?_, ?_, ?_, ?_, ?_⟩ <;> go_simp
theorem BoxL.next {w wr w2 : World} {x : PL} {v : Value} (h : BoxL w wr x v) (hb : Below wr.heap.size wr w2) : BoxL w w2 x v :=
  ⟨bt h.b hb, Nat.lt_of_lt_of_le h.sz hb.size, keep_box hb h.sz h.c0, keep_box hb h.sz h.c1, keep_box hb h.sz h.c2, keep_box hb h.sz h.c3, keep_box hb h.sz h.c4, keep_box hb h.sz h.c5, keep_box hb h.sz h.c6⟩
set_option maxHeartbeats 8000000 in
set_option maxRecDepth 100000 in
theorem wrong_prog (x : PL) (p : Option Addr) (c : Nat) (w : World) (hF : FormsAt w) (hL : IntsR w (.slice p x.list.length c) x.list) (hl : x.list.length ≤ 100000000000000) :
    Calls Tryd.prog 44 #[lineV x p x.list.length c] w (Is (.int .i64 (wrongL x)) w) := by
  by_cases hop : 0 ≤ x.op ∧ x.op ≤ 48
  case neg =>
    have HE := Lib.hid (show wrongL x = 170 by unfold wrongL; rw [if_pos (by omega)])
    obtain ⟨op, a, b, imm, nn, label, list⟩ := x
    simp only at hop
    have hop : op < 0 ∨ 48 < op := by omega
    clear hF hL hl
    unfold lineV
    rcases hop with h | h
    all_goals
      go_enter Tryd.func44, Tryd.ntmps44
      go_wp2
      go_ret
      exact ⟨Relax.ret_int HE.out.symm, below_one _ _⟩
  obtain ⟨h1, h2⟩ := hop
  obtain ⟨o, ho⟩ : ∃ o, operandsB x = o := ⟨_, rfl⟩
  obtain ⟨f, hf⟩ : ∃ o, labelFitsB x = o := ⟨_, rfl⟩
  obtain ⟨t, ht⟩ : ∃ o, listFitsB x = o := ⟨_, rfl⟩
  have HE := Lib.hid (show wrongL x = if o && f && t && (x.n == 0 || x.op == 2) then 0 else 171 by rw [wrongL_ok h1 h2, ho, hf, ht])
  have HO := Lib.hid (fun w hF => ho ▸ operandsFit_prog x p x.list.length c w hF)
  have HL := Lib.hid (fun w => hf ▸ labelFits_prog x p x.list.length c w)
  have HT := Lib.hid (fun w hL => ht ▸ listFits_prog x p c w hL hl)
  have HF := Lib.hid hF
  have HI := Lib.hid hL
  clear ho hf ht hF hL
  obtain ⟨op, a, b, imm, nn, label, list⟩ := x
  simp only at h1 h2 hl HE HO HL HT HI
  unfold lineV at HO HL HT ⊢
  simp only at HO HL HT ⊢
  have HB0 := Lib.hid (BoxL.start w 45 ⟨op, a, b, imm, nn, label, list⟩ (.slice p list.length c))
  generalize hn : list.length = n at *
  clear hn
  cases o
  · go_enter Tryd.func44, Tryd.ntmps44
    go_wp2_with (first
      | (go_at_call 59; refine (HO.out _ (HF.out.alloc _)).mono ?_; rintro e w2 ⟨rfl, hb⟩; have HB1 := Lib.hid (HB0.out.next hb); have HF2 := Lib.hid ((HF.out.alloc _).below hb); obtain ⟨_, z1, c0, c1, c2, c3, c4, c5, c6⟩ := HB1.out; clear hb))
    go_ret
    exact ⟨Relax.ret_int (by rw [HE.out]; simp [*]), HB1.out.b⟩
  cases f
  · go_enter Tryd.func44, Tryd.ntmps44
    go_wp2_with (first
      | (go_at_call 59; refine (HO.out _ (HF.out.alloc _)).mono ?_; rintro e w2 ⟨rfl, hb⟩; have HB1 := Lib.hid (HB0.out.next hb); have HF2 := Lib.hid ((HF.out.alloc _).below hb); obtain ⟨_, z1, c0, c1, c2, c3, c4, c5, c6⟩ := HB1.out; clear hb)
      | (go_at_call 60; refine (HL.out _).mono ?_; rintro e w3 ⟨rfl, hb⟩; have HB2 := Lib.hid (HB1.out.next hb); obtain ⟨_, z2, d0, d1, d2, d3, d4, d5, d6⟩ := HB2.out; clear hb))
    go_ret
    exact ⟨Relax.ret_int (by rw [HE.out]; simp [*]), HB2.out.b⟩
  cases t
  · go_enter Tryd.func44, Tryd.ntmps44
    go_wp2_with (first
      | (go_at_call 59; refine (HO.out _ (HF.out.alloc _)).mono ?_; rintro e w2 ⟨rfl, hb⟩; have HB1 := Lib.hid (HB0.out.next hb); have HF2 := Lib.hid ((HF.out.alloc _).below hb); obtain ⟨_, z1, c0, c1, c2, c3, c4, c5, c6⟩ := HB1.out; clear hb)
      | (go_at_call 60; refine (HL.out _).mono ?_; rintro e w3 ⟨rfl, hb⟩; have HB2 := Lib.hid (HB1.out.next hb); obtain ⟨_, z2, d0, d1, d2, d3, d4, d5, d6⟩ := HB2.out; clear hb)
      | (go_at_call 61; refine (HT.out _ (HI.out.below HB2.out.b)).mono ?_; rintro e w4 ⟨rfl, hb⟩; have HB3 := Lib.hid (HB2.out.next hb); obtain ⟨_, z3, e0, e1, e2, e3, e4, e5, e6⟩ := HB3.out; clear hb))
    go_ret
    exact ⟨Relax.ret_int (by rw [HE.out]; simp [*]), HB3.out.b⟩
  by_cases hn0 : nn = 0
  · subst hn0
    go_enter Tryd.func44, Tryd.ntmps44
    go_wp2_with (first
      | (go_at_call 59; refine (HO.out _ (HF.out.alloc _)).mono ?_; rintro e w2 ⟨rfl, hb⟩; have HB1 := Lib.hid (HB0.out.next hb); have HF2 := Lib.hid ((HF.out.alloc _).below hb); obtain ⟨_, z1, c0, c1, c2, c3, c4, c5, c6⟩ := HB1.out; clear hb)
      | (go_at_call 60; refine (HL.out _).mono ?_; rintro e w3 ⟨rfl, hb⟩; have HB2 := Lib.hid (HB1.out.next hb); obtain ⟨_, z2, d0, d1, d2, d3, d4, d5, d6⟩ := HB2.out; clear hb)
      | (go_at_call 61; refine (HT.out _ (HI.out.below HB2.out.b)).mono ?_; rintro e w4 ⟨rfl, hb⟩; have HB3 := Lib.hid (HB2.out.next hb); obtain ⟨_, z3, e0, e1, e2, e3, e4, e5, e6⟩ := HB3.out; clear hb))
    go_ret
    exact ⟨Relax.ret_int (by rw [HE.out]; simp [*]), HB3.out.b⟩
  have q1 : (nn == 0) = false := by simpa using hn0
  have q2 : (nn != 0) = true := by simpa using hn0
  have q3 : decide (nn = 0) = false := by simpa using hn0
  clear hn0
  by_cases ho2 : op = 2
  · subst ho2
    go_enter Tryd.func44, Tryd.ntmps44
    go_wp2_with (first
      | (go_at_call 59; refine (HO.out _ (HF.out.alloc _)).mono ?_; rintro e w2 ⟨rfl, hb⟩; have HB1 := Lib.hid (HB0.out.next hb); have HF2 := Lib.hid ((HF.out.alloc _).below hb); obtain ⟨_, z1, c0, c1, c2, c3, c4, c5, c6⟩ := HB1.out; clear hb)
      | (go_at_call 60; refine (HL.out _).mono ?_; rintro e w3 ⟨rfl, hb⟩; have HB2 := Lib.hid (HB1.out.next hb); obtain ⟨_, z2, d0, d1, d2, d3, d4, d5, d6⟩ := HB2.out; clear hb)
      | (go_at_call 61; refine (HT.out _ (HI.out.below HB2.out.b)).mono ?_; rintro e w4 ⟨rfl, hb⟩; have HB3 := Lib.hid (HB2.out.next hb); obtain ⟨_, z3, e0, e1, e2, e3, e4, e5, e6⟩ := HB3.out; clear hb))
    go_ret
    exact ⟨Relax.ret_int (by rw [HE.out]; simp [*]), HB3.out.b⟩
  have q4 : (op == 2) = false := by simpa using ho2
  have q5 : (op != 2) = true := by simpa using ho2
  clear ho2
  go_enter Tryd.func44, Tryd.ntmps44
  go_wp2_with (first
    | (go_at_call 59; refine (HO.out _ (HF.out.alloc _)).mono ?_; rintro e w2 ⟨rfl, hb⟩; have HB1 := Lib.hid (HB0.out.next hb); have HF2 := Lib.hid ((HF.out.alloc _).below hb); obtain ⟨_, z1, c0, c1, c2, c3, c4, c5, c6⟩ := HB1.out; clear hb)
    | (go_at_call 60; refine (HL.out _).mono ?_; rintro e w3 ⟨rfl, hb⟩; have HB2 := Lib.hid (HB1.out.next hb); obtain ⟨_, z2, d0, d1, d2, d3, d4, d5, d6⟩ := HB2.out; clear hb)
    | (go_at_call 61; refine (HT.out _ (HI.out.below HB2.out.b)).mono ?_; rintro e w4 ⟨rfl, hb⟩; have HB3 := Lib.hid (HB2.out.next hb); obtain ⟨_, z3, e0, e1, e2, e3, e4, e5, e6⟩ := HB3.out; clear hb))
  go_ret
  exact ⟨Relax.ret_int (by rw [HE.out]; simp [*]), HB3.out.b⟩
end Go.Proofs.YtmnhafncdblklaaDoor.Relax
