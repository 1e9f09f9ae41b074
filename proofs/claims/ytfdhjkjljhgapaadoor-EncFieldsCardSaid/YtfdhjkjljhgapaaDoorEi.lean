/- The law EncFields, out of contracts of the program's functions (given as premises). -/
import Derived.Test.YtfdhjkjljhgapaaDoorEh
namespace Go.Proofs.YtfdhjkjljhgapaaDoor.Enc
open Go.RowKit
/-- The instruction with another value in a field. -/
def putF (op a b i k n : Int) : PC := if k = 0 then ⟨op, n, b, i⟩ else if k = 1 then ⟨op, a, n, i⟩ else if k = 2 then ⟨op, a, b, n⟩ else ⟨n, a, b, i⟩
set_option maxHeartbeats 8000000 in
theorem fields_a (D : Does) (op a b i _k n : Int) (hc : InR ⟨op, a, b, i⟩) (hd : InR ⟨op, n, b, i⟩) (w : World) (hF : FormsAt w) : Calls Tryd.prog 8 #[cV ⟨op, a, b, i⟩, .int .i64 0, .int .i64 n] w (True_ w) := by
  obtain ⟨x, e, he⟩ : ∃ x e, encP ⟨op, a, b, i⟩ = (x, e) := ⟨_, _, rfl⟩
  obtain ⟨y, f, hf⟩ : ∃ y f, encP ⟨op, n, b, i⟩ = (y, f) := ⟨_, _, rfl⟩
  have HE := Lib.hid (fun w => D.enc4 hc he w)
  have HD := Lib.hid (fun w => D.enc4 hd hf w)
  have HL := Lib.hid (fun w => live_any D w)
  unfold cV
  by_cases e0 : e = 0
  case neg =>
    have k1 : (e == 0) = false := by simpa using e0
    have k2 : (e != 0) = true := by simpa using e0
    clear e0 D hc hd he hf
    go_enter Tryd.func8, Tryd.ntmps8
    go_wp2_with (first | (go_at_call 9; ((with_reducible refine (HE.out _ (by repeat (first | assumption | apply FormsAt.alloc))).mono ?_); rintro e w2 ⟨rfl, hb2⟩; have kf2 := FormsAt.below (by repeat (first | assumption | apply FormsAt.alloc)) hb2; obtain ⟨hc2, hf2⟩ := bcell hb2; have hz2 : w.heap.size + 1 < w2.heap.size := Nat.lt_of_lt_of_le (by first | assumption | (simp; done) | (simp; omega)) hb2.size; have hy2 : w.heap.size < w2.heap.size := (by omega); have H2 := Lib.hid hb2; clear hb2 HE)) | (go_at_call 9; ((with_reducible refine (HD.out _ (by repeat (first | assumption | apply FormsAt.alloc))).mono ?_); rintro e w3 ⟨rfl, hb3⟩; have kf3 := FormsAt.below (by repeat (first | assumption | apply FormsAt.alloc)) hb3; obtain ⟨hc3, hf3⟩ := bcell hb3; have hz3 : w.heap.size + 1 < w3.heap.size := Nat.lt_of_lt_of_le (by first | assumption | (simp; done) | (simp; omega)) hb3.size; have hy3 : w.heap.size < w3.heap.size := (by omega); have H3 := Lib.hid hb3; clear hb3)) | (go_at_call 11; ((with_reducible refine (HL.out _ (by repeat (first | assumption | apply FormsAt.alloc))).mono ?_); rintro e w4 ⟨rfl, hb4⟩; have kf4 := FormsAt.below (by repeat (first | assumption | apply FormsAt.alloc)) hb4; obtain ⟨hc4, hf4⟩ := bcell hb4; have hz4 : w.heap.size + 1 < w4.heap.size := Nat.lt_of_lt_of_le (by first | assumption | (simp; done) | (simp; omega)) hb4.size; have hy4 : w.heap.size < w4.heap.size := (by omega); have H4 := Lib.hid hb4; clear hb4)))
    all_goals go_ret
    all_goals exact ⟨rfl, bt (bt2 w _ _) (bt H2.out (bt H3.out H4.out))⟩
  subst e0
  by_cases f0 : f = 0
  case neg =>
    have k1 : (f == 0) = false := by simpa using f0
    have k2 : (f != 0) = true := by simpa using f0
    clear f0 D hc hd he hf
    go_enter Tryd.func8, Tryd.ntmps8
    go_wp2_with (first | (go_at_call 9; ((with_reducible refine (HE.out _ (by repeat (first | assumption | apply FormsAt.alloc))).mono ?_); rintro e w2 ⟨rfl, hb2⟩; have kf2 := FormsAt.below (by repeat (first | assumption | apply FormsAt.alloc)) hb2; obtain ⟨hc2, hf2⟩ := bcell hb2; have hz2 : w.heap.size + 1 < w2.heap.size := Nat.lt_of_lt_of_le (by first | assumption | (simp; done) | (simp; omega)) hb2.size; have hy2 : w.heap.size < w2.heap.size := (by omega); have H2 := Lib.hid hb2; clear hb2 HE)) | (go_at_call 9; ((with_reducible refine (HD.out _ (by repeat (first | assumption | apply FormsAt.alloc))).mono ?_); rintro e w3 ⟨rfl, hb3⟩; have kf3 := FormsAt.below (by repeat (first | assumption | apply FormsAt.alloc)) hb3; obtain ⟨hc3, hf3⟩ := bcell hb3; have hz3 : w.heap.size + 1 < w3.heap.size := Nat.lt_of_lt_of_le (by first | assumption | (simp; done) | (simp; omega)) hb3.size; have hy3 : w.heap.size < w3.heap.size := (by omega); have H3 := Lib.hid hb3; clear hb3)) | (go_at_call 11; ((with_reducible refine (HL.out _ (by repeat (first | assumption | apply FormsAt.alloc))).mono ?_); rintro e w4 ⟨rfl, hb4⟩; have kf4 := FormsAt.below (by repeat (first | assumption | apply FormsAt.alloc)) hb4; obtain ⟨hc4, hf4⟩ := bcell hb4; have hz4 : w.heap.size + 1 < w4.heap.size := Nat.lt_of_lt_of_le (by first | assumption | (simp; done) | (simp; omega)) hb4.size; have hy4 : w.heap.size < w4.heap.size := (by omega); have H4 := Lib.hid hb4; clear hb4)))
    all_goals go_ret
    all_goals exact ⟨rfl, bt (bt2 w _ _) (bt H2.out (bt H3.out H4.out))⟩
  subst f0
  have hbits : bits .andNot .u32 (bits .xor .u32 x y) 15728640 = 0 := by
    rw [(encP_ok he).2, (encP_ok hf).2]
    exact field_a (encP_ok he).1 (encP_ok hf).1 rfl rfl rfl
  have hbz : (bits .andNot .u32 (bits .xor .u32 x y) 15728640 == 0) = true := by rw [hbits]; rfl
  clear D hc hd he hf hbits
  go_enter Tryd.func8, Tryd.ntmps8
  go_wp2_with (first | (go_at_call 9; ((with_reducible refine (HE.out _ (by repeat (first | assumption | apply FormsAt.alloc))).mono ?_); rintro e w2 ⟨rfl, hb2⟩; have kf2 := FormsAt.below (by repeat (first | assumption | apply FormsAt.alloc)) hb2; obtain ⟨hc2, hf2⟩ := bcell hb2; have hz2 : w.heap.size + 1 < w2.heap.size := Nat.lt_of_lt_of_le (by first | assumption | (simp; done) | (simp; omega)) hb2.size; have hy2 : w.heap.size < w2.heap.size := (by omega); have H2 := Lib.hid hb2; clear hb2 HE)) | (go_at_call 9; ((with_reducible refine (HD.out _ (by repeat (first | assumption | apply FormsAt.alloc))).mono ?_); rintro e w3 ⟨rfl, hb3⟩; have kf3 := FormsAt.below (by repeat (first | assumption | apply FormsAt.alloc)) hb3; obtain ⟨hc3, hf3⟩ := bcell hb3; have hz3 : w.heap.size + 1 < w3.heap.size := Nat.lt_of_lt_of_le (by first | assumption | (simp; done) | (simp; omega)) hb3.size; have hy3 : w.heap.size < w3.heap.size := (by omega); have H3 := Lib.hid hb3; clear hb3)) | (go_at_call 11; ((with_reducible refine (HL.out _ (by repeat (first | assumption | apply FormsAt.alloc))).mono ?_); rintro e w4 ⟨rfl, hb4⟩; have kf4 := FormsAt.below (by repeat (first | assumption | apply FormsAt.alloc)) hb4; obtain ⟨hc4, hf4⟩ := bcell hb4; have hz4 : w.heap.size + 1 < w4.heap.size := Nat.lt_of_lt_of_le (by first | assumption | (simp; done) | (simp; omega)) hb4.size; have hy4 : w.heap.size < w4.heap.size := (by omega); have H4 := Lib.hid hb4; clear hb4)))
  all_goals go_ret
  all_goals exact ⟨rfl, bt (bt2 w _ _) (bt H2.out (bt H3.out H4.out))⟩
set_option maxHeartbeats 8000000 in
theorem fields_b (D : Does) (op a b i _k n : Int) (hc : InR ⟨op, a, b, i⟩) (hd : InR ⟨op, a, n, i⟩) (w : World) (hF : FormsAt w) : Calls Tryd.prog 8 #[cV ⟨op, a, b, i⟩, .int .i64 1, .int .i64 n] w (True_ w) := by
  obtain ⟨x, e, he⟩ : ∃ x e, encP ⟨op, a, b, i⟩ = (x, e) := ⟨_, _, rfl⟩
  obtain ⟨y, f, hf⟩ : ∃ y f, encP ⟨op, a, n, i⟩ = (y, f) := ⟨_, _, rfl⟩
  have HE := Lib.hid (fun w => D.enc4 hc he w)
  have HD := Lib.hid (fun w => D.enc4 hd hf w)
  have HL := Lib.hid (fun w => live_any D w)
  unfold cV
  by_cases e0 : e = 0
  case neg =>
    have k1 : (e == 0) = false := by simpa using e0
    have k2 : (e != 0) = true := by simpa using e0
    clear e0 D hc hd he hf
    go_enter Tryd.func8, Tryd.ntmps8
    go_wp2_with (first | (go_at_call 9; ((with_reducible refine (HE.out _ (by repeat (first | assumption | apply FormsAt.alloc))).mono ?_); rintro e w2 ⟨rfl, hb2⟩; have kf2 := FormsAt.below (by repeat (first | assumption | apply FormsAt.alloc)) hb2; obtain ⟨hc2, hf2⟩ := bcell hb2; have hz2 : w.heap.size + 1 < w2.heap.size := Nat.lt_of_lt_of_le (by first | assumption | (simp; done) | (simp; omega)) hb2.size; have hy2 : w.heap.size < w2.heap.size := (by omega); have H2 := Lib.hid hb2; clear hb2 HE)) | (go_at_call 9; ((with_reducible refine (HD.out _ (by repeat (first | assumption | apply FormsAt.alloc))).mono ?_); rintro e w3 ⟨rfl, hb3⟩; have kf3 := FormsAt.below (by repeat (first | assumption | apply FormsAt.alloc)) hb3; obtain ⟨hc3, hf3⟩ := bcell hb3; have hz3 : w.heap.size + 1 < w3.heap.size := Nat.lt_of_lt_of_le (by first | assumption | (simp; done) | (simp; omega)) hb3.size; have hy3 : w.heap.size < w3.heap.size := (by omega); have H3 := Lib.hid hb3; clear hb3)) | (go_at_call 11; ((with_reducible refine (HL.out _ (by repeat (first | assumption | apply FormsAt.alloc))).mono ?_); rintro e w4 ⟨rfl, hb4⟩; have kf4 := FormsAt.below (by repeat (first | assumption | apply FormsAt.alloc)) hb4; obtain ⟨hc4, hf4⟩ := bcell hb4; have hz4 : w.heap.size + 1 < w4.heap.size := Nat.lt_of_lt_of_le (by first | assumption | (simp; done) | (simp; omega)) hb4.size; have hy4 : w.heap.size < w4.heap.size := (by omega); have H4 := Lib.hid hb4; clear hb4)))
    all_goals go_ret
    all_goals exact ⟨rfl, bt (bt2 w _ _) (bt H2.out (bt H3.out H4.out))⟩
  subst e0
  by_cases f0 : f = 0
  case neg =>
    have k1 : (f == 0) = false := by simpa using f0
    have k2 : (f != 0) = true := by simpa using f0
    clear f0 D hc hd he hf
    go_enter Tryd.func8, Tryd.ntmps8
    go_wp2_with (first | (go_at_call 9; ((with_reducible refine (HE.out _ (by repeat (first | assumption | apply FormsAt.alloc))).mono ?_); rintro e w2 ⟨rfl, hb2⟩; have kf2 := FormsAt.below (by repeat (first | assumption | apply FormsAt.alloc)) hb2; obtain ⟨hc2, hf2⟩ := bcell hb2; have hz2 : w.heap.size + 1 < w2.heap.size := Nat.lt_of_lt_of_le (by first | assumption | (simp; done) | (simp; omega)) hb2.size; have hy2 : w.heap.size < w2.heap.size := (by omega); have H2 := Lib.hid hb2; clear hb2 HE)) | (go_at_call 9; ((with_reducible refine (HD.out _ (by repeat (first | assumption | apply FormsAt.alloc))).mono ?_); rintro e w3 ⟨rfl, hb3⟩; have kf3 := FormsAt.below (by repeat (first | assumption | apply FormsAt.alloc)) hb3; obtain ⟨hc3, hf3⟩ := bcell hb3; have hz3 : w.heap.size + 1 < w3.heap.size := Nat.lt_of_lt_of_le (by first | assumption | (simp; done) | (simp; omega)) hb3.size; have hy3 : w.heap.size < w3.heap.size := (by omega); have H3 := Lib.hid hb3; clear hb3)) | (go_at_call 11; ((with_reducible refine (HL.out _ (by repeat (first | assumption | apply FormsAt.alloc))).mono ?_); rintro e w4 ⟨rfl, hb4⟩; have kf4 := FormsAt.below (by repeat (first | assumption | apply FormsAt.alloc)) hb4; obtain ⟨hc4, hf4⟩ := bcell hb4; have hz4 : w.heap.size + 1 < w4.heap.size := Nat.lt_of_lt_of_le (by first | assumption | (simp; done) | (simp; omega)) hb4.size; have hy4 : w.heap.size < w4.heap.size := (by omega); have H4 := Lib.hid hb4; clear hb4)))
    all_goals go_ret
    all_goals exact ⟨rfl, bt (bt2 w _ _) (bt H2.out (bt H3.out H4.out))⟩
  subst f0
  have hbits : bits .andNot .u32 (bits .xor .u32 x y) 983040 = 0 := by
    rw [(encP_ok he).2, (encP_ok hf).2]
    exact field_b (encP_ok he).1 (encP_ok hf).1 rfl rfl rfl
  have hbz : (bits .andNot .u32 (bits .xor .u32 x y) 983040 == 0) = true := by rw [hbits]; rfl
  clear D hc hd he hf hbits
  go_enter Tryd.func8, Tryd.ntmps8
  go_wp2_with (first | (go_at_call 9; ((with_reducible refine (HE.out _ (by repeat (first | assumption | apply FormsAt.alloc))).mono ?_); rintro e w2 ⟨rfl, hb2⟩; have kf2 := FormsAt.below (by repeat (first | assumption | apply FormsAt.alloc)) hb2; obtain ⟨hc2, hf2⟩ := bcell hb2; have hz2 : w.heap.size + 1 < w2.heap.size := Nat.lt_of_lt_of_le (by first | assumption | (simp; done) | (simp; omega)) hb2.size; have hy2 : w.heap.size < w2.heap.size := (by omega); have H2 := Lib.hid hb2; clear hb2 HE)) | (go_at_call 9; ((with_reducible refine (HD.out _ (by repeat (first | assumption | apply FormsAt.alloc))).mono ?_); rintro e w3 ⟨rfl, hb3⟩; have kf3 := FormsAt.below (by repeat (first | assumption | apply FormsAt.alloc)) hb3; obtain ⟨hc3, hf3⟩ := bcell hb3; have hz3 : w.heap.size + 1 < w3.heap.size := Nat.lt_of_lt_of_le (by first | assumption | (simp; done) | (simp; omega)) hb3.size; have hy3 : w.heap.size < w3.heap.size := (by omega); have H3 := Lib.hid hb3; clear hb3)) | (go_at_call 11; ((with_reducible refine (HL.out _ (by repeat (first | assumption | apply FormsAt.alloc))).mono ?_); rintro e w4 ⟨rfl, hb4⟩; have kf4 := FormsAt.below (by repeat (first | assumption | apply FormsAt.alloc)) hb4; obtain ⟨hc4, hf4⟩ := bcell hb4; have hz4 : w.heap.size + 1 < w4.heap.size := Nat.lt_of_lt_of_le (by first | assumption | (simp; done) | (simp; omega)) hb4.size; have hy4 : w.heap.size < w4.heap.size := (by omega); have H4 := Lib.hid hb4; clear hb4)))
  all_goals go_ret
  all_goals exact ⟨rfl, bt (bt2 w _ _) (bt H2.out (bt H3.out H4.out))⟩
set_option maxHeartbeats 8000000 in
theorem fields_i (D : Does) (op a b i _k n : Int) (hc : InR ⟨op, a, b, i⟩) (hd : InR ⟨op, a, b, n⟩) (w : World) (hF : FormsAt w) : Calls Tryd.prog 8 #[cV ⟨op, a, b, i⟩, .int .i64 2, .int .i64 n] w (True_ w) := by
  obtain ⟨x, e, he⟩ : ∃ x e, encP ⟨op, a, b, i⟩ = (x, e) := ⟨_, _, rfl⟩
  obtain ⟨y, f, hf⟩ : ∃ y f, encP ⟨op, a, b, n⟩ = (y, f) := ⟨_, _, rfl⟩
  have HE := Lib.hid (fun w => D.enc4 hc he w)
  have HD := Lib.hid (fun w => D.enc4 hd hf w)
  have HL := Lib.hid (fun w => live_any D w)
  unfold cV
  by_cases e0 : e = 0
  case neg =>
    have k1 : (e == 0) = false := by simpa using e0
    have k2 : (e != 0) = true := by simpa using e0
    clear e0 D hc hd he hf
    go_enter Tryd.func8, Tryd.ntmps8
    go_wp2_with (first | (go_at_call 9; ((with_reducible refine (HE.out _ (by repeat (first | assumption | apply FormsAt.alloc))).mono ?_); rintro e w2 ⟨rfl, hb2⟩; have kf2 := FormsAt.below (by repeat (first | assumption | apply FormsAt.alloc)) hb2; obtain ⟨hc2, hf2⟩ := bcell hb2; have hz2 : w.heap.size + 1 < w2.heap.size := Nat.lt_of_lt_of_le (by first | assumption | (simp; done) | (simp; omega)) hb2.size; have hy2 : w.heap.size < w2.heap.size := (by omega); have H2 := Lib.hid hb2; clear hb2 HE)) | (go_at_call 9; ((with_reducible refine (HD.out _ (by repeat (first | assumption | apply FormsAt.alloc))).mono ?_); rintro e w3 ⟨rfl, hb3⟩; have kf3 := FormsAt.below (by repeat (first | assumption | apply FormsAt.alloc)) hb3; obtain ⟨hc3, hf3⟩ := bcell hb3; have hz3 : w.heap.size + 1 < w3.heap.size := Nat.lt_of_lt_of_le (by first | assumption | (simp; done) | (simp; omega)) hb3.size; have hy3 : w.heap.size < w3.heap.size := (by omega); have H3 := Lib.hid hb3; clear hb3)) | (go_at_call 11; ((with_reducible refine (HL.out _ (by repeat (first | assumption | apply FormsAt.alloc))).mono ?_); rintro e w4 ⟨rfl, hb4⟩; have kf4 := FormsAt.below (by repeat (first | assumption | apply FormsAt.alloc)) hb4; obtain ⟨hc4, hf4⟩ := bcell hb4; have hz4 : w.heap.size + 1 < w4.heap.size := Nat.lt_of_lt_of_le (by first | assumption | (simp; done) | (simp; omega)) hb4.size; have hy4 : w.heap.size < w4.heap.size := (by omega); have H4 := Lib.hid hb4; clear hb4)))
    all_goals go_ret
    all_goals exact ⟨rfl, bt (bt2 w _ _) (bt H2.out (bt H3.out H4.out))⟩
  subst e0
  by_cases f0 : f = 0
  case neg =>
    have k1 : (f == 0) = false := by simpa using f0
    have k2 : (f != 0) = true := by simpa using f0
    clear f0 D hc hd he hf
    go_enter Tryd.func8, Tryd.ntmps8
    go_wp2_with (first | (go_at_call 9; ((with_reducible refine (HE.out _ (by repeat (first | assumption | apply FormsAt.alloc))).mono ?_); rintro e w2 ⟨rfl, hb2⟩; have kf2 := FormsAt.below (by repeat (first | assumption | apply FormsAt.alloc)) hb2; obtain ⟨hc2, hf2⟩ := bcell hb2; have hz2 : w.heap.size + 1 < w2.heap.size := Nat.lt_of_lt_of_le (by first | assumption | (simp; done) | (simp; omega)) hb2.size; have hy2 : w.heap.size < w2.heap.size := (by omega); have H2 := Lib.hid hb2; clear hb2 HE)) | (go_at_call 9; ((with_reducible refine (HD.out _ (by repeat (first | assumption | apply FormsAt.alloc))).mono ?_); rintro e w3 ⟨rfl, hb3⟩; have kf3 := FormsAt.below (by repeat (first | assumption | apply FormsAt.alloc)) hb3; obtain ⟨hc3, hf3⟩ := bcell hb3; have hz3 : w.heap.size + 1 < w3.heap.size := Nat.lt_of_lt_of_le (by first | assumption | (simp; done) | (simp; omega)) hb3.size; have hy3 : w.heap.size < w3.heap.size := (by omega); have H3 := Lib.hid hb3; clear hb3)) | (go_at_call 11; ((with_reducible refine (HL.out _ (by repeat (first | assumption | apply FormsAt.alloc))).mono ?_); rintro e w4 ⟨rfl, hb4⟩; have kf4 := FormsAt.below (by repeat (first | assumption | apply FormsAt.alloc)) hb4; obtain ⟨hc4, hf4⟩ := bcell hb4; have hz4 : w.heap.size + 1 < w4.heap.size := Nat.lt_of_lt_of_le (by first | assumption | (simp; done) | (simp; omega)) hb4.size; have hy4 : w.heap.size < w4.heap.size := (by omega); have H4 := Lib.hid hb4; clear hb4)))
    all_goals go_ret
    all_goals exact ⟨rfl, bt (bt2 w _ _) (bt H2.out (bt H3.out H4.out))⟩
  subst f0
  have hbits : bits .andNot .u32 (bits .xor .u32 x y) 65535 = 0 := by
    rw [(encP_ok he).2, (encP_ok hf).2]
    exact field_i (encP_ok he).1 (encP_ok hf).1 rfl rfl rfl
  have hbz : (bits .andNot .u32 (bits .xor .u32 x y) 65535 == 0) = true := by rw [hbits]; rfl
  clear D hc hd he hf hbits
  go_enter Tryd.func8, Tryd.ntmps8
  go_wp2_with (first | (go_at_call 9; ((with_reducible refine (HE.out _ (by repeat (first | assumption | apply FormsAt.alloc))).mono ?_); rintro e w2 ⟨rfl, hb2⟩; have kf2 := FormsAt.below (by repeat (first | assumption | apply FormsAt.alloc)) hb2; obtain ⟨hc2, hf2⟩ := bcell hb2; have hz2 : w.heap.size + 1 < w2.heap.size := Nat.lt_of_lt_of_le (by first | assumption | (simp; done) | (simp; omega)) hb2.size; have hy2 : w.heap.size < w2.heap.size := (by omega); have H2 := Lib.hid hb2; clear hb2 HE)) | (go_at_call 9; ((with_reducible refine (HD.out _ (by repeat (first | assumption | apply FormsAt.alloc))).mono ?_); rintro e w3 ⟨rfl, hb3⟩; have kf3 := FormsAt.below (by repeat (first | assumption | apply FormsAt.alloc)) hb3; obtain ⟨hc3, hf3⟩ := bcell hb3; have hz3 : w.heap.size + 1 < w3.heap.size := Nat.lt_of_lt_of_le (by first | assumption | (simp; done) | (simp; omega)) hb3.size; have hy3 : w.heap.size < w3.heap.size := (by omega); have H3 := Lib.hid hb3; clear hb3)) | (go_at_call 11; ((with_reducible refine (HL.out _ (by repeat (first | assumption | apply FormsAt.alloc))).mono ?_); rintro e w4 ⟨rfl, hb4⟩; have kf4 := FormsAt.below (by repeat (first | assumption | apply FormsAt.alloc)) hb4; obtain ⟨hc4, hf4⟩ := bcell hb4; have hz4 : w.heap.size + 1 < w4.heap.size := Nat.lt_of_lt_of_le (by first | assumption | (simp; done) | (simp; omega)) hb4.size; have hy4 : w.heap.size < w4.heap.size := (by omega); have H4 := Lib.hid hb4; clear hb4)))
  all_goals go_ret
  all_goals exact ⟨rfl, bt (bt2 w _ _) (bt H2.out (bt H3.out H4.out))⟩
set_option maxHeartbeats 8000000 in
theorem fields_op (D : Does) (op a b i k n : Int) (hc : InR ⟨op, a, b, i⟩) (hd : InR ⟨n, a, b, i⟩) (h0 : k ≠ 0) (h1 : k ≠ 1) (h2 : k ≠ 2) (w : World) (hF : FormsAt w) : Calls Tryd.prog 8 #[cV ⟨op, a, b, i⟩, .int .i64 k, .int .i64 n] w (True_ w) := by
  obtain ⟨x, e, he⟩ : ∃ x e, encP ⟨op, a, b, i⟩ = (x, e) := ⟨_, _, rfl⟩
  obtain ⟨y, f, hf⟩ : ∃ y f, encP ⟨n, a, b, i⟩ = (y, f) := ⟨_, _, rfl⟩
  have HE := Lib.hid (fun w => D.enc4 hc he w)
  have HD := Lib.hid (fun w => D.enc4 hd hf w)
  have HL := Lib.hid (fun w => live_any D w)
  unfold cV
  have q0 : (k == 0) = false := by simpa using h0
  have q1 : (k == 1) = false := by simpa using h1
  have q2 : (k == 2) = false := by simpa using h2
  clear h0 h1 h2
  by_cases e0 : e = 0
  case neg =>
    have k1 : (e == 0) = false := by simpa using e0
    have k2 : (e != 0) = true := by simpa using e0
    clear e0 D hc hd he hf
    go_enter Tryd.func8, Tryd.ntmps8
    go_wp2_with (first | (go_at_call 9; ((with_reducible refine (HE.out _ (by repeat (first | assumption | apply FormsAt.alloc))).mono ?_); rintro e w2 ⟨rfl, hb2⟩; have kf2 := FormsAt.below (by repeat (first | assumption | apply FormsAt.alloc)) hb2; obtain ⟨hc2, hf2⟩ := bcell hb2; have hz2 : w.heap.size + 1 < w2.heap.size := Nat.lt_of_lt_of_le (by first | assumption | (simp; done) | (simp; omega)) hb2.size; have hy2 : w.heap.size < w2.heap.size := (by omega); have H2 := Lib.hid hb2; clear hb2 HE)) | (go_at_call 9; ((with_reducible refine (HD.out _ (by repeat (first | assumption | apply FormsAt.alloc))).mono ?_); rintro e w3 ⟨rfl, hb3⟩; have kf3 := FormsAt.below (by repeat (first | assumption | apply FormsAt.alloc)) hb3; obtain ⟨hc3, hf3⟩ := bcell hb3; have hz3 : w.heap.size + 1 < w3.heap.size := Nat.lt_of_lt_of_le (by first | assumption | (simp; done) | (simp; omega)) hb3.size; have hy3 : w.heap.size < w3.heap.size := (by omega); have H3 := Lib.hid hb3; clear hb3)) | (go_at_call 11; ((with_reducible refine (HL.out _ (by repeat (first | assumption | apply FormsAt.alloc))).mono ?_); rintro e w4 ⟨rfl, hb4⟩; have kf4 := FormsAt.below (by repeat (first | assumption | apply FormsAt.alloc)) hb4; obtain ⟨hc4, hf4⟩ := bcell hb4; have hz4 : w.heap.size + 1 < w4.heap.size := Nat.lt_of_lt_of_le (by first | assumption | (simp; done) | (simp; omega)) hb4.size; have hy4 : w.heap.size < w4.heap.size := (by omega); have H4 := Lib.hid hb4; clear hb4)))
    all_goals go_ret
    all_goals exact ⟨rfl, bt (bt2 w _ _) (bt H2.out (bt H3.out H4.out))⟩
  subst e0
  by_cases f0 : f = 0
  case neg =>
    have k1 : (f == 0) = false := by simpa using f0
    have k2 : (f != 0) = true := by simpa using f0
    clear f0 D hc hd he hf
    go_enter Tryd.func8, Tryd.ntmps8
    go_wp2_with (first | (go_at_call 9; ((with_reducible refine (HE.out _ (by repeat (first | assumption | apply FormsAt.alloc))).mono ?_); rintro e w2 ⟨rfl, hb2⟩; have kf2 := FormsAt.below (by repeat (first | assumption | apply FormsAt.alloc)) hb2; obtain ⟨hc2, hf2⟩ := bcell hb2; have hz2 : w.heap.size + 1 < w2.heap.size := Nat.lt_of_lt_of_le (by first | assumption | (simp; done) | (simp; omega)) hb2.size; have hy2 : w.heap.size < w2.heap.size := (by omega); have H2 := Lib.hid hb2; clear hb2 HE)) | (go_at_call 9; ((with_reducible refine (HD.out _ (by repeat (first | assumption | apply FormsAt.alloc))).mono ?_); rintro e w3 ⟨rfl, hb3⟩; have kf3 := FormsAt.below (by repeat (first | assumption | apply FormsAt.alloc)) hb3; obtain ⟨hc3, hf3⟩ := bcell hb3; have hz3 : w.heap.size + 1 < w3.heap.size := Nat.lt_of_lt_of_le (by first | assumption | (simp; done) | (simp; omega)) hb3.size; have hy3 : w.heap.size < w3.heap.size := (by omega); have H3 := Lib.hid hb3; clear hb3)) | (go_at_call 11; ((with_reducible refine (HL.out _ (by repeat (first | assumption | apply FormsAt.alloc))).mono ?_); rintro e w4 ⟨rfl, hb4⟩; have kf4 := FormsAt.below (by repeat (first | assumption | apply FormsAt.alloc)) hb4; obtain ⟨hc4, hf4⟩ := bcell hb4; have hz4 : w.heap.size + 1 < w4.heap.size := Nat.lt_of_lt_of_le (by first | assumption | (simp; done) | (simp; omega)) hb4.size; have hy4 : w.heap.size < w4.heap.size := (by omega); have H4 := Lib.hid hb4; clear hb4)))
    all_goals go_ret
    all_goals exact ⟨rfl, bt (bt2 w _ _) (bt H2.out (bt H3.out H4.out))⟩
  subst f0
  have hbits : bits .andNot .u32 (bits .xor .u32 x y) 4278190080 = 0 := by
    rw [(encP_ok he).2, (encP_ok hf).2]
    exact field_op (encP_ok he).1 (encP_ok hf).1 rfl rfl rfl
  have hbz : (bits .andNot .u32 (bits .xor .u32 x y) 4278190080 == 0) = true := by rw [hbits]; rfl
  clear D hc hd he hf hbits
  go_enter Tryd.func8, Tryd.ntmps8
  go_wp2_with (first | (go_at_call 9; ((with_reducible refine (HE.out _ (by repeat (first | assumption | apply FormsAt.alloc))).mono ?_); rintro e w2 ⟨rfl, hb2⟩; have kf2 := FormsAt.below (by repeat (first | assumption | apply FormsAt.alloc)) hb2; obtain ⟨hc2, hf2⟩ := bcell hb2; have hz2 : w.heap.size + 1 < w2.heap.size := Nat.lt_of_lt_of_le (by first | assumption | (simp; done) | (simp; omega)) hb2.size; have hy2 : w.heap.size < w2.heap.size := (by omega); have H2 := Lib.hid hb2; clear hb2 HE)) | (go_at_call 9; ((with_reducible refine (HD.out _ (by repeat (first | assumption | apply FormsAt.alloc))).mono ?_); rintro e w3 ⟨rfl, hb3⟩; have kf3 := FormsAt.below (by repeat (first | assumption | apply FormsAt.alloc)) hb3; obtain ⟨hc3, hf3⟩ := bcell hb3; have hz3 : w.heap.size + 1 < w3.heap.size := Nat.lt_of_lt_of_le (by first | assumption | (simp; done) | (simp; omega)) hb3.size; have hy3 : w.heap.size < w3.heap.size := (by omega); have H3 := Lib.hid hb3; clear hb3)) | (go_at_call 11; ((with_reducible refine (HL.out _ (by repeat (first | assumption | apply FormsAt.alloc))).mono ?_); rintro e w4 ⟨rfl, hb4⟩; have kf4 := FormsAt.below (by repeat (first | assumption | apply FormsAt.alloc)) hb4; obtain ⟨hc4, hf4⟩ := bcell hb4; have hz4 : w.heap.size + 1 < w4.heap.size := Nat.lt_of_lt_of_le (by first | assumption | (simp; done) | (simp; omega)) hb4.size; have hy4 : w.heap.size < w4.heap.size := (by omega); have H4 := Lib.hid hb4; clear hb4)))
  all_goals go_ret
  all_goals exact ⟨rfl, bt (bt2 w _ _) (bt H2.out (bt H3.out H4.out))⟩
/-- The law EncFields. -/
theorem fields_any (D : Does) (c : PC) (hc : InR c) (k n : Int) (hn : inR n) (w : World) (hF : FormsAt w) : Calls Tryd.prog 8 #[cV c, .int .i64 k, .int .i64 n] w (True_ w) := by
  obtain ⟨op, a, b, i⟩ := c
  by_cases h0 : k = 0
  · subst h0; exact fields_a D op a b i 0 n hc ⟨hc.op, hn, hc.b, hc.imm⟩ w hF
  by_cases h1 : k = 1
  · subst h1; exact fields_b D op a b i 1 n hc ⟨hc.op, hc.a, hn, hc.imm⟩ w hF
  by_cases h2 : k = 2
  · subst h2; exact fields_i D op a b i 2 n hc ⟨hc.op, hc.a, hc.b, hn⟩ w hF
  · exact fields_op D op a b i k n hc ⟨hn, hc.a, hc.b, hc.imm⟩ h0 h1 h2 w hF
end Go.Proofs.YtfdhjkjljhgapaaDoor.Enc
