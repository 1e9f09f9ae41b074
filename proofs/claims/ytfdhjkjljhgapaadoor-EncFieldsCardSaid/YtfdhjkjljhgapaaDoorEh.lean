/- The law EncApart, out of contracts of the program's functions (given as premises). -/
import Derived.Test.YtfdhjkjljhgapaaDoorEg
namespace Go.Proofs.YtfdhjkjljhgapaaDoor.Enc
open Go.RowKit
theorem bt2 (w : World) (a b : Obj) : Below w.heap.size w ((w.alloc a).alloc b) := (below_one w a).alloc (by simp) b
set_option maxHeartbeats 8000000 in
/-- The law EncApart. -/
theorem apart_any (D : Does) (c d : PC) (hc : InR c) (hd : InR d) (w : World) (hF : FormsAt w) : Calls Tryd.prog 7 #[cV c, cV d] w (True_ w) := by
  obtain ⟨op, a, b, i⟩ := c
  obtain ⟨o2, a2, b2, i2⟩ := d
  obtain ⟨x, e, he⟩ : ∃ x e, encP ⟨op, a, b, i⟩ = (x, e) := ⟨_, _, rfl⟩
  obtain ⟨y, f, hf⟩ : ∃ y f, encP ⟨o2, a2, b2, i2⟩ = (y, f) := ⟨_, _, rfl⟩
  have HE := Lib.hid (fun w => D.enc4 hc he w)
  have HD := Lib.hid (fun w => D.enc4 hd hf w)
  have HL := Lib.hid (fun w => live_any D w)
  unfold cV
  by_cases e0 : e = 0
  case neg =>
    have k1 : (e == 0) = false := by simpa using e0
    have k2 : (e != 0) = true := by simpa using e0
    clear e0 D hc hd he hf
    go_enter Tryd.func7, Tryd.ntmps7
    go_wp2_with (first | (go_at_call 9; ((with_reducible refine (HE.out _ (by repeat (first | assumption | apply FormsAt.alloc))).mono ?_); rintro e w2 ⟨rfl, hb2⟩; have kf2 := FormsAt.below (by repeat (first | assumption | apply FormsAt.alloc)) hb2; obtain ⟨hc2, hf2⟩ := bcell hb2; have hz2 : w.heap.size + 1 < w2.heap.size := Nat.lt_of_lt_of_le (by first | assumption | (simp; done) | (simp; omega)) hb2.size; have hy2 : w.heap.size < w2.heap.size := (by omega); have H2 := Lib.hid hb2; clear hb2 HE)) | (go_at_call 9; ((with_reducible refine (HD.out _ (by repeat (first | assumption | apply FormsAt.alloc))).mono ?_); rintro e w3 ⟨rfl, hb3⟩; have kf3 := FormsAt.below (by repeat (first | assumption | apply FormsAt.alloc)) hb3; obtain ⟨hc3, hf3⟩ := bcell hb3; have hz3 : w.heap.size + 1 < w3.heap.size := Nat.lt_of_lt_of_le (by first | assumption | (simp; done) | (simp; omega)) hb3.size; have hy3 : w.heap.size < w3.heap.size := (by omega); have H3 := Lib.hid hb3; clear hb3)) | (go_at_call 11; ((with_reducible refine (HL.out _ (by repeat (first | assumption | apply FormsAt.alloc))).mono ?_); rintro e w4 ⟨rfl, hb4⟩; have kf4 := FormsAt.below (by repeat (first | assumption | apply FormsAt.alloc)) hb4; obtain ⟨hc4, hf4⟩ := bcell hb4; have hz4 : w.heap.size + 1 < w4.heap.size := Nat.lt_of_lt_of_le (by first | assumption | (simp; done) | (simp; omega)) hb4.size; have hy4 : w.heap.size < w4.heap.size := (by omega); have H4 := Lib.hid hb4; clear hb4)))
    all_goals go_ret
    all_goals exact ⟨rfl, bt (bt2 w _ _) (bt H2.out (bt H3.out H4.out))⟩
  subst e0
  by_cases f0 : f = 0
  case neg =>
    have k1 : (f == 0) = false := by simpa using f0
    have k2 : (f != 0) = true := by simpa using f0
    clear f0 D hc hd he hf
    go_enter Tryd.func7, Tryd.ntmps7
    go_wp2_with (first | (go_at_call 9; ((with_reducible refine (HE.out _ (by repeat (first | assumption | apply FormsAt.alloc))).mono ?_); rintro e w2 ⟨rfl, hb2⟩; have kf2 := FormsAt.below (by repeat (first | assumption | apply FormsAt.alloc)) hb2; obtain ⟨hc2, hf2⟩ := bcell hb2; have hz2 : w.heap.size + 1 < w2.heap.size := Nat.lt_of_lt_of_le (by first | assumption | (simp; done) | (simp; omega)) hb2.size; have hy2 : w.heap.size < w2.heap.size := (by omega); have H2 := Lib.hid hb2; clear hb2 HE)) | (go_at_call 9; ((with_reducible refine (HD.out _ (by repeat (first | assumption | apply FormsAt.alloc))).mono ?_); rintro e w3 ⟨rfl, hb3⟩; have kf3 := FormsAt.below (by repeat (first | assumption | apply FormsAt.alloc)) hb3; obtain ⟨hc3, hf3⟩ := bcell hb3; have hz3 : w.heap.size + 1 < w3.heap.size := Nat.lt_of_lt_of_le (by first | assumption | (simp; done) | (simp; omega)) hb3.size; have hy3 : w.heap.size < w3.heap.size := (by omega); have H3 := Lib.hid hb3; clear hb3)) | (go_at_call 11; ((with_reducible refine (HL.out _ (by repeat (first | assumption | apply FormsAt.alloc))).mono ?_); rintro e w4 ⟨rfl, hb4⟩; have kf4 := FormsAt.below (by repeat (first | assumption | apply FormsAt.alloc)) hb4; obtain ⟨hc4, hf4⟩ := bcell hb4; have hz4 : w.heap.size + 1 < w4.heap.size := Nat.lt_of_lt_of_le (by first | assumption | (simp; done) | (simp; omega)) hb4.size; have hy4 : w.heap.size < w4.heap.size := (by omega); have H4 := Lib.hid hb4; clear hb4)))
    all_goals go_ret
    all_goals exact ⟨rfl, bt (bt2 w _ _) (bt H2.out (bt H3.out H4.out))⟩
  subst f0
  by_cases hcd : (⟨op, a, b, i⟩ : PC) = ⟨o2, a2, b2, i2⟩
  · simp only [PC.mk.injEq] at hcd
    obtain ⟨rfl, rfl, rfl, rfl⟩ := hcd
    have hxy : x = y := by rw [he] at hf; simpa using hf
    subst hxy
    clear D hc hd he hf
    go_enter Tryd.func7, Tryd.ntmps7
    go_wp2_with (first | (go_at_call 9; ((with_reducible refine (HE.out _ (by repeat (first | assumption | apply FormsAt.alloc))).mono ?_); rintro e w2 ⟨rfl, hb2⟩; have kf2 := FormsAt.below (by repeat (first | assumption | apply FormsAt.alloc)) hb2; obtain ⟨hc2, hf2⟩ := bcell hb2; have hz2 : w.heap.size + 1 < w2.heap.size := Nat.lt_of_lt_of_le (by first | assumption | (simp; done) | (simp; omega)) hb2.size; have hy2 : w.heap.size < w2.heap.size := (by omega); have H2 := Lib.hid hb2; clear hb2 HE)) | (go_at_call 9; ((with_reducible refine (HD.out _ (by repeat (first | assumption | apply FormsAt.alloc))).mono ?_); rintro e w3 ⟨rfl, hb3⟩; have kf3 := FormsAt.below (by repeat (first | assumption | apply FormsAt.alloc)) hb3; obtain ⟨hc3, hf3⟩ := bcell hb3; have hz3 : w.heap.size + 1 < w3.heap.size := Nat.lt_of_lt_of_le (by first | assumption | (simp; done) | (simp; omega)) hb3.size; have hy3 : w.heap.size < w3.heap.size := (by omega); have H3 := Lib.hid hb3; clear hb3)) | (go_at_call 11; ((with_reducible refine (HL.out _ (by repeat (first | assumption | apply FormsAt.alloc))).mono ?_); rintro e w4 ⟨rfl, hb4⟩; have kf4 := FormsAt.below (by repeat (first | assumption | apply FormsAt.alloc)) hb4; obtain ⟨hc4, hf4⟩ := bcell hb4; have hz4 : w.heap.size + 1 < w4.heap.size := Nat.lt_of_lt_of_le (by first | assumption | (simp; done) | (simp; omega)) hb4.size; have hy4 : w.heap.size < w4.heap.size := (by omega); have H4 := Lib.hid hb4; clear hb4)))
    all_goals go_ret
    all_goals exact ⟨rfl, bt (bt2 w _ _) (bt H2.out (bt H3.out H4.out))⟩
  · have hxy : (x == y) = false := by
      simp only [beq_eq_false_iff_ne, ne_eq]
      intro h
      subst h
      exact hcd (apart he hf)
    clear D hc hd he hf
    go_enter Tryd.func7, Tryd.ntmps7
    go_wp2_with (first | (go_at_call 9; ((with_reducible refine (HE.out _ (by repeat (first | assumption | apply FormsAt.alloc))).mono ?_); rintro e w2 ⟨rfl, hb2⟩; have kf2 := FormsAt.below (by repeat (first | assumption | apply FormsAt.alloc)) hb2; obtain ⟨hc2, hf2⟩ := bcell hb2; have hz2 : w.heap.size + 1 < w2.heap.size := Nat.lt_of_lt_of_le (by first | assumption | (simp; done) | (simp; omega)) hb2.size; have hy2 : w.heap.size < w2.heap.size := (by omega); have H2 := Lib.hid hb2; clear hb2 HE)) | (go_at_call 9; ((with_reducible refine (HD.out _ (by repeat (first | assumption | apply FormsAt.alloc))).mono ?_); rintro e w3 ⟨rfl, hb3⟩; have kf3 := FormsAt.below (by repeat (first | assumption | apply FormsAt.alloc)) hb3; obtain ⟨hc3, hf3⟩ := bcell hb3; have hz3 : w.heap.size + 1 < w3.heap.size := Nat.lt_of_lt_of_le (by first | assumption | (simp; done) | (simp; omega)) hb3.size; have hy3 : w.heap.size < w3.heap.size := (by omega); have H3 := Lib.hid hb3; clear hb3)) | (go_at_call 11; ((with_reducible refine (HL.out _ (by repeat (first | assumption | apply FormsAt.alloc))).mono ?_); rintro e w4 ⟨rfl, hb4⟩; have kf4 := FormsAt.below (by repeat (first | assumption | apply FormsAt.alloc)) hb4; obtain ⟨hc4, hf4⟩ := bcell hb4; have hz4 : w.heap.size + 1 < w4.heap.size := Nat.lt_of_lt_of_le (by first | assumption | (simp; done) | (simp; omega)) hb4.size; have hy4 : w.heap.size < w4.heap.size := (by omega); have H4 := Lib.hid hb4; clear hb4)))
    all_goals go_ret
    all_goals first | exact ⟨rfl, bt (bt2 w _ _) (bt H2.out (bt H3.out H4.out))⟩ | (refine absurd ?_ hcd; simp only [PC.mk.injEq]; refine ⟨?_, ?_, ?_, ?_⟩ <;> omega)
end Go.Proofs.YtfdhjkjljhgapaaDoor.Enc
