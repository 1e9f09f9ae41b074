/- The law EncBack, out of contracts of the program's three functions (given as premises). -/
import Derived.Test.YtfdhjkjljhgapaaDoorEf
namespace Go.Proofs.YtfdhjkjljhgapaaDoor.Enc
open Go.RowKit
abbrev agg4 (op a b i : Int) : Value := .agg #[.int .i64 op, .int .i64 a, .int .i64 b, .int .i64 i]
theorem Does.enc4 (D : Does) {op a b i x e : Int} (hc : InR ⟨op, a, b, i⟩) (h : encP ⟨op, a, b, i⟩ = (x, e)) (w : World) (hF : FormsAt w) :
    Calls Tryd.prog 9 #[.agg #[.int .i64 op, .int .i64 a, .int .i64 b, .int .i64 i]] w fun r w' => r = .returned (.tuple #[.int .u32 x, .int .i64 e]) ∧ Below w.heap.size w w' := D.encAt hc h w hF
theorem Does.dec4 (D : Does) {x op a b i e : Int} (hx : 0 ≤ x ∧ x ≤ 4294967295) (h : decP x = (⟨op, a, b, i⟩, e)) (w : World) (hF : FormsAt w) :
    Calls Tryd.prog 12 #[.int .u32 x] w fun r w' => r = .returned (.tuple #[.agg #[.int .i64 op, .int .i64 a, .int .i64 b, .int .i64 i], .int .i64 e]) ∧ Below w.heap.size w w' := D.decAt hx h w hF
set_option maxHeartbeats 8000000 in
/-- The law EncBack. -/
theorem back_any (D : Does) (c : PC) (hc : InR c) (v : Int) (hv : 0 ≤ v ∧ v ≤ 4294967295) (w : World) (hF : FormsAt w) : Calls Tryd.prog 6 #[cV c, .int .u32 v] w (True_ w) := by
  obtain ⟨op, a, b, i⟩ := c
  obtain ⟨x, e, he⟩ : ∃ x e, encP ⟨op, a, b, i⟩ = (x, e) := ⟨_, _, rfl⟩
  obtain ⟨o2, a2, b2, i2, f, hf⟩ : ∃ o2 a2 b2 i2 f, decP v = (⟨o2, a2, b2, i2⟩, f) := ⟨_, _, _, _, _, rfl⟩
  have HE := Lib.hid (fun w => D.enc4 hc he w)
  have HD := Lib.hid (fun w => D.dec4 hv hf w)
  have HL := Lib.hid (fun w => live_any D w)
  unfold cV
  by_cases e0 : e = 0
  · by_cases f0 : f = 0
    · skip
      subst e0
      have hx := wordP_range (within (encP_ok he).1)
      rw [← (encP_ok he).2] at hx
      have HX := Lib.hid (fun w => D.dec4 hx (back1 he) w)
      subst f0
      have hd := InR.of (within (encP_ok (back2 hv hf)).1)
      have HY := Lib.hid (fun w => D.enc4 hd (back2 hv hf) w)
      clear hd
      clear D hc hv he hf hx
      go_enter Tryd.func6, Tryd.ntmps6
      go_wp2_with (first | (go_at_call 9; ((with_reducible refine (HE.out _ (by repeat (first | assumption | apply FormsAt.alloc))).mono ?_); rintro e w2 ⟨rfl, hb2⟩; have kf2 := FormsAt.below (by repeat (first | assumption | apply FormsAt.alloc)) hb2; obtain ⟨hc2, hf2⟩ := bcell hb2; have hz2 : w.heap.size < w2.heap.size := Nat.lt_of_lt_of_le (by first | assumption | (simp; done) | (simp; omega)) hb2.size; have H2 := Lib.hid hb2; clear hb2)) | (go_at_call 12; ((with_reducible refine (HX.out _ (by repeat (first | assumption | apply FormsAt.alloc))).mono ?_); rintro e w3 ⟨rfl, hb3⟩; have kf3 := FormsAt.below (by repeat (first | assumption | apply FormsAt.alloc)) hb3; obtain ⟨hc3, hf3⟩ := bcell hb3; have hz3 : w.heap.size < w3.heap.size := Nat.lt_of_lt_of_le (by first | assumption | (simp; done) | (simp; omega)) hb3.size; have H3 := Lib.hid hb3; clear hb3)) | (go_at_call 12; ((with_reducible refine (HD.out _ (by repeat (first | assumption | apply FormsAt.alloc))).mono ?_); rintro e w4 ⟨rfl, hb4⟩; have kf4 := FormsAt.below (by repeat (first | assumption | apply FormsAt.alloc)) hb4; obtain ⟨hc4, hf4⟩ := bcell hb4; have hz4 : w.heap.size < w4.heap.size := Nat.lt_of_lt_of_le (by first | assumption | (simp; done) | (simp; omega)) hb4.size; have H4 := Lib.hid hb4; clear hb4)) | (go_at_call 9; ((with_reducible refine (HY.out _ (by repeat (first | assumption | apply FormsAt.alloc))).mono ?_); rintro e w5 ⟨rfl, hb5⟩; have kf5 := FormsAt.below (by repeat (first | assumption | apply FormsAt.alloc)) hb5; obtain ⟨hc5, hf5⟩ := bcell hb5; have hz5 : w.heap.size < w5.heap.size := Nat.lt_of_lt_of_le (by first | assumption | (simp; done) | (simp; omega)) hb5.size; have H5 := Lib.hid hb5; clear hb5)) | (go_at_call 11; ((with_reducible refine (HL.out _ (by repeat (first | assumption | apply FormsAt.alloc))).mono ?_); rintro e w6 ⟨rfl, hb6⟩; have kf6 := FormsAt.below (by repeat (first | assumption | apply FormsAt.alloc)) hb6; obtain ⟨hc6, hf6⟩ := bcell hb6; have hz6 : w.heap.size < w6.heap.size := Nat.lt_of_lt_of_le (by first | assumption | (simp; done) | (simp; omega)) hb6.size; have H6 := Lib.hid hb6; clear hb6)))
      go_ret
      exact ⟨rfl, (bt (below_one w _) (bt H2.out (bt H3.out (bt (below_one w3 _) (bt H4.out (bt (below_one w4 _) (bt H5.out H6.out)))))))⟩
    · skip
      subst e0
      have hx := wordP_range (within (encP_ok he).1)
      rw [← (encP_ok he).2] at hx
      have HX := Lib.hid (fun w => D.dec4 hx (back1 he) w)
      have k2 : (f == 0) = false := by simpa using f0
      clear f0
      clear D hc hv he hf hx
      go_enter Tryd.func6, Tryd.ntmps6
      go_wp2_with (first | (go_at_call 9; ((with_reducible refine (HE.out _ (by repeat (first | assumption | apply FormsAt.alloc))).mono ?_); rintro e w2 ⟨rfl, hb2⟩; have kf2 := FormsAt.below (by repeat (first | assumption | apply FormsAt.alloc)) hb2; obtain ⟨hc2, hf2⟩ := bcell hb2; have hz2 : w.heap.size < w2.heap.size := Nat.lt_of_lt_of_le (by first | assumption | (simp; done) | (simp; omega)) hb2.size; have H2 := Lib.hid hb2; clear hb2)) | (go_at_call 12; ((with_reducible refine (HX.out _ (by repeat (first | assumption | apply FormsAt.alloc))).mono ?_); rintro e w3 ⟨rfl, hb3⟩; have kf3 := FormsAt.below (by repeat (first | assumption | apply FormsAt.alloc)) hb3; obtain ⟨hc3, hf3⟩ := bcell hb3; have hz3 : w.heap.size < w3.heap.size := Nat.lt_of_lt_of_le (by first | assumption | (simp; done) | (simp; omega)) hb3.size; have H3 := Lib.hid hb3; clear hb3)) | (go_at_call 12; ((with_reducible refine (HD.out _ (by repeat (first | assumption | apply FormsAt.alloc))).mono ?_); rintro e w4 ⟨rfl, hb4⟩; have kf4 := FormsAt.below (by repeat (first | assumption | apply FormsAt.alloc)) hb4; obtain ⟨hc4, hf4⟩ := bcell hb4; have hz4 : w.heap.size < w4.heap.size := Nat.lt_of_lt_of_le (by first | assumption | (simp; done) | (simp; omega)) hb4.size; have H4 := Lib.hid hb4; clear hb4)) | (go_at_call 11; ((with_reducible refine (HL.out _ (by repeat (first | assumption | apply FormsAt.alloc))).mono ?_); rintro e w6 ⟨rfl, hb6⟩; have kf6 := FormsAt.below (by repeat (first | assumption | apply FormsAt.alloc)) hb6; obtain ⟨hc6, hf6⟩ := bcell hb6; have hz6 : w.heap.size < w6.heap.size := Nat.lt_of_lt_of_le (by first | assumption | (simp; done) | (simp; omega)) hb6.size; have H6 := Lib.hid hb6; clear hb6)))
      go_ret
      exact ⟨rfl, (bt (below_one w _) (bt H2.out (bt H3.out (bt (below_one w3 _) (bt H4.out (bt (below_one w4 _) H6.out))))))⟩
  · by_cases f0 : f = 0
    · skip
      have k1 : (e == 0) = false := by simpa using e0
      clear e0
      subst f0
      have hd := InR.of (within (encP_ok (back2 hv hf)).1)
      have HY := Lib.hid (fun w => D.enc4 hd (back2 hv hf) w)
      clear hd
      clear D hc hv he hf
      go_enter Tryd.func6, Tryd.ntmps6
      go_wp2_with (first | (go_at_call 9; ((with_reducible refine (HE.out _ (by repeat (first | assumption | apply FormsAt.alloc))).mono ?_); rintro e w2 ⟨rfl, hb2⟩; have kf2 := FormsAt.below (by repeat (first | assumption | apply FormsAt.alloc)) hb2; obtain ⟨hc2, hf2⟩ := bcell hb2; have hz2 : w.heap.size < w2.heap.size := Nat.lt_of_lt_of_le (by first | assumption | (simp; done) | (simp; omega)) hb2.size; have H2 := Lib.hid hb2; clear hb2)) | (go_at_call 12; ((with_reducible refine (HD.out _ (by repeat (first | assumption | apply FormsAt.alloc))).mono ?_); rintro e w4 ⟨rfl, hb4⟩; have kf4 := FormsAt.below (by repeat (first | assumption | apply FormsAt.alloc)) hb4; obtain ⟨hc4, hf4⟩ := bcell hb4; have hz4 : w.heap.size < w4.heap.size := Nat.lt_of_lt_of_le (by first | assumption | (simp; done) | (simp; omega)) hb4.size; have H4 := Lib.hid hb4; clear hb4)) | (go_at_call 9; ((with_reducible refine (HY.out _ (by repeat (first | assumption | apply FormsAt.alloc))).mono ?_); rintro e w5 ⟨rfl, hb5⟩; have kf5 := FormsAt.below (by repeat (first | assumption | apply FormsAt.alloc)) hb5; obtain ⟨hc5, hf5⟩ := bcell hb5; have hz5 : w.heap.size < w5.heap.size := Nat.lt_of_lt_of_le (by first | assumption | (simp; done) | (simp; omega)) hb5.size; have H5 := Lib.hid hb5; clear hb5)) | (go_at_call 11; ((with_reducible refine (HL.out _ (by repeat (first | assumption | apply FormsAt.alloc))).mono ?_); rintro e w6 ⟨rfl, hb6⟩; have kf6 := FormsAt.below (by repeat (first | assumption | apply FormsAt.alloc)) hb6; obtain ⟨hc6, hf6⟩ := bcell hb6; have hz6 : w.heap.size < w6.heap.size := Nat.lt_of_lt_of_le (by first | assumption | (simp; done) | (simp; omega)) hb6.size; have H6 := Lib.hid hb6; clear hb6)))
      go_ret
      exact ⟨rfl, (bt (below_one w _) (bt H2.out (bt H4.out (bt (below_one w4 _) (bt H5.out H6.out)))))⟩
    · skip
      have k1 : (e == 0) = false := by simpa using e0
      clear e0
      have k2 : (f == 0) = false := by simpa using f0
      clear f0
      clear D hc hv he hf
      go_enter Tryd.func6, Tryd.ntmps6
      go_wp2_with (first | (go_at_call 9; ((with_reducible refine (HE.out _ (by repeat (first | assumption | apply FormsAt.alloc))).mono ?_); rintro e w2 ⟨rfl, hb2⟩; have kf2 := FormsAt.below (by repeat (first | assumption | apply FormsAt.alloc)) hb2; obtain ⟨hc2, hf2⟩ := bcell hb2; have hz2 : w.heap.size < w2.heap.size := Nat.lt_of_lt_of_le (by first | assumption | (simp; done) | (simp; omega)) hb2.size; have H2 := Lib.hid hb2; clear hb2)) | (go_at_call 12; ((with_reducible refine (HD.out _ (by repeat (first | assumption | apply FormsAt.alloc))).mono ?_); rintro e w4 ⟨rfl, hb4⟩; have kf4 := FormsAt.below (by repeat (first | assumption | apply FormsAt.alloc)) hb4; obtain ⟨hc4, hf4⟩ := bcell hb4; have hz4 : w.heap.size < w4.heap.size := Nat.lt_of_lt_of_le (by first | assumption | (simp; done) | (simp; omega)) hb4.size; have H4 := Lib.hid hb4; clear hb4)) | (go_at_call 11; ((with_reducible refine (HL.out _ (by repeat (first | assumption | apply FormsAt.alloc))).mono ?_); rintro e w6 ⟨rfl, hb6⟩; have kf6 := FormsAt.below (by repeat (first | assumption | apply FormsAt.alloc)) hb6; obtain ⟨hc6, hf6⟩ := bcell hb6; have hz6 : w.heap.size < w6.heap.size := Nat.lt_of_lt_of_le (by first | assumption | (simp; done) | (simp; omega)) hb6.size; have H6 := Lib.hid hb6; clear hb6)))
      go_ret
      exact ⟨rfl, (bt (below_one w _) (bt H2.out (bt H4.out (bt (below_one w4 _) H6.out))))⟩
end Go.Proofs.YtfdhjkjljhgapaaDoor.Enc
