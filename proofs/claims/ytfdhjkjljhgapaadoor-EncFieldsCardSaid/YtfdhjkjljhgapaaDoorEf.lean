/- The laws of layer enc, out of contracts of the program's three functions (given as premises here). -/
import Derived.Test.YtfdhjkjljhgapaaDoorEp1
namespace Go.Proofs.YtfdhjkjljhgapaaDoor.Enc
open Go.RowKit

def inR (n : Int) : Prop := -9223372036854775808 ≤ n ∧ n ≤ 9223372036854775807
/-- An instruction whose fields are numbers of 64 bits. -/
structure InR (c : PC) : Prop where
  op : inR c.op
  a : inR c.a
  b : inR c.b
  imm : inR c.imm
theorem InR.of {c : PC} (h : Within c) : InR c := by
  obtain ⟨h1, h2, h3, h4⟩ := h
  refine ⟨?_, ?_, ?_, ?_⟩ <;> unfold inR <;> omega
/-- What the program's three functions do. -/
structure Does : Prop where
  enc : ∀ (c : PC) (w : World), InR c → FormsAt w → Calls Tryd.prog 9 #[cV c] w (EncPost c w)
  dec : ∀ (x : Int) (w : World), 0 ≤ x ∧ x ≤ 4294967295 → FormsAt w → Calls Tryd.prog 12 #[.int .u32 x] w (DecPost x w)
  fol : ∀ (n : Int) (w : World), inR n → Calls Tryd.prog 14 #[.int .i64 n] w fun e w' => e = .returned (.int .i64 (followsP n)) ∧ Below w.heap.size w w'
theorem EncPost.at_ {c : PC} {w : World} {x e : Int} {P : Calls Tryd.prog 9 #[cV c] w (EncPost c w)} (h : encP c = (x, e)) : Calls Tryd.prog 9 #[cV c] w fun r w' => r = .returned (.tuple #[.int .u32 x, .int .i64 e]) ∧ Below w.heap.size w w' :=
  P.mono fun r w' ⟨h1, h2⟩ => ⟨by rw [h1, h], h2⟩
theorem Does.encAt (D : Does) {c : PC} {x e : Int} (hc : InR c) (h : encP c = (x, e)) (w : World) (hF : FormsAt w) : Calls Tryd.prog 9 #[cV c] w fun r w' => r = .returned (.tuple #[.int .u32 x, .int .i64 e]) ∧ Below w.heap.size w w' :=
  (D.enc c w hc hF).mono fun r w' ⟨h1, h2⟩ => ⟨by rw [h1, h], h2⟩
theorem Does.decAt (D : Does) {x : Int} {c : PC} {e : Int} (hx : 0 ≤ x ∧ x ≤ 4294967295) (h : decP x = (c, e)) (w : World) (hF : FormsAt w) : Calls Tryd.prog 12 #[.int .u32 x] w fun r w' => r = .returned (.tuple #[cV c, .int .i64 e]) ∧ Below w.heap.size w w' :=
  (D.dec x w hx hF).mono fun r w' ⟨h1, h2⟩ => ⟨by rw [h1, h], h2⟩
theorem renc_at {c : PC} {x e : Int} (h : encP c = (x, e)) (w : World) : Calls Tryd.prog 10 #[cV c] w fun r w' => r = .returned (.tuple #[.int .u32 x, .int .i64 e]) ∧ Below w.heap.size w w' :=
  (renc_any c w).mono fun r w' ⟨h1, h2⟩ => ⟨by rw [h1, h], h2⟩
theorem rdec_at {x : Int} {c : PC} {e : Int} (hx : 0 ≤ x ∧ x ≤ 4294967295) (h : decP x = (c, e)) (w : World) : Calls Tryd.prog 13 #[.int .u32 x] w fun r w' => r = .returned (.tuple #[cV c, .int .i64 e]) ∧ Below w.heap.size w w' :=
  (rdec_any x hx w).mono fun r w' ⟨h1, h2⟩ => ⟨by rw [h1, h], h2⟩
theorem Does.toDec (D : Does) : DoesDec := ⟨D.dec⟩
def True_ (w : World) (e : Ending) (w' : World) : Prop := e = .returned (.bool true) ∧ Below w.heap.size w w'
set_option maxHeartbeats 4000000 in
theorem live_any (D : Does) (w : World) (hF : FormsAt w) : Calls Tryd.prog 11 #[] w (True_ w) := by
  have HE := Lib.hid (fun w => D.encAt (c := ⟨1, 3, 0, -2⟩) (x := 19988478) (e := 0) ⟨by unfold inR; decide, by unfold inR; decide, by unfold inR; decide, by unfold inR; decide⟩ (by decide) w)
  have HD := Lib.hid (fun w => D.decAt (x := 503447424) (c := ⟨30, 0, 1, -128⟩) (e := 0) (by decide) (by decide) w)
  have HF := Lib.hid (fun w => D.fol 42 w (by unfold inR; decide))
  clear D
  go_enter Tryd.func11, Tryd.ntmps11
  go_wp2_with (first
    | (go_at_call 9; refine (HE.out _ (by repeat (first | assumption | apply FormsAt.alloc))).mono ?_; rintro e w2 ⟨rfl, hb2⟩; have kf2 := FormsAt.below (by repeat (first | assumption | apply FormsAt.alloc)) hb2; have H2 := Lib.hid hb2; clear hb2)
    | (go_at_call 12; refine (HD.out _ (by repeat (first | assumption | apply FormsAt.alloc))).mono ?_; rintro e w3 ⟨rfl, hb3⟩; have kf3 := FormsAt.below (by repeat (first | assumption | apply FormsAt.alloc)) hb3; have H3 := Lib.hid hb3; clear hb3)
    | (go_at_call 14; refine (HF.out _).mono ?_; rintro e w4 ⟨rfl, hb4⟩; have kf4 := FormsAt.below (by repeat (first | assumption | apply FormsAt.alloc)) hb4; have H4 := Lib.hid hb4; clear hb4))
  go_ret
  exact ⟨ret_bool (by decide), bt H2.out (bt H3.out (bt (below_one w3 _) H4.out))⟩
set_option maxHeartbeats 4000000 in
/-- The law EncWrites, where the program's functions do what the plain ones do. -/
theorem writes_any (D : Does) (c : PC) (hc : InR c) (w : World) (hF : FormsAt w) : Calls Tryd.prog 3 #[cV c] w (True_ w) := by
  obtain ⟨x, e, he⟩ : ∃ x e, encP c = (x, e) := ⟨_, _, rfl⟩
  have HE := Lib.hid (fun w => D.encAt hc he w)
  have HR := Lib.hid (fun w => renc_at he w)
  have HL := Lib.hid (fun w => live_any D w)
  clear D hc he
  obtain ⟨op, a, b, i⟩ := c
  unfold cV
  go_enter Tryd.func3, Tryd.ntmps3
  go_wp2_with (first
    | (go_at_call 9; refine (HE.out _ (by repeat (first | assumption | apply FormsAt.alloc))).mono ?_; rintro e w2 ⟨rfl, hb2⟩; have kf2 := FormsAt.below (by repeat (first | assumption | apply FormsAt.alloc)) hb2; have H2 := Lib.hid hb2; have c0 := hb2.cell (p := ⟨w.heap.size, 0, none⟩) (by simp); have c1 := hb2.cell (p := ⟨w.heap.size, 1, none⟩) (by simp); have c2 := hb2.cell (p := ⟨w.heap.size, 2, none⟩) (by simp); have c3 := hb2.cell (p := ⟨w.heap.size, 3, none⟩) (by simp); clear hb2)
    | (go_at_call 10; refine (HR.out _).mono ?_; rintro e w3 ⟨rfl, hb3⟩; have kf3 := FormsAt.below (by repeat (first | assumption | apply FormsAt.alloc)) hb3; have H3 := Lib.hid hb3; clear hb3)
    | (go_at_call 11; refine (HL.out _ (by repeat (first | assumption | apply FormsAt.alloc))).mono ?_; rintro e w4 ⟨rfl, hb4⟩; have kf4 := FormsAt.below (by repeat (first | assumption | apply FormsAt.alloc)) hb4; have H4 := Lib.hid hb4; clear hb4))
  go_ret
  exact ⟨rfl, bt (below_one w _) (bt H2.out (bt H3.out H4.out))⟩
set_option maxHeartbeats 4000000 in
/-- The law EncFollows. -/
theorem follows_any (D : Does) (n : Int) (hn : inR n) (w : World) (hF : FormsAt w) : Calls Tryd.prog 5 #[.int .i64 n] w (True_ w) := by
  obtain ⟨x, hx⟩ : ∃ x, x = followsP n := ⟨_, rfl⟩
  have HF := Lib.hid (fun w => hx ▸ D.fol n w hn)
  have HR := Lib.hid (fun w => hx ▸ rfollows_any n w)
  have HL := Lib.hid (fun w => live_any D w)
  clear D hn hx
  go_enter Tryd.func5, Tryd.ntmps5
  go_wp2_with (first
    | (go_at_call 14; refine (HF.out _).mono ?_; rintro e w2 ⟨rfl, hb2⟩; have kf2 := FormsAt.below (by repeat (first | assumption | apply FormsAt.alloc)) hb2; have H2 := Lib.hid hb2; clear hb2)
    | (go_at_call 15; refine (HR.out _).mono ?_; rintro e w3 ⟨rfl, rfl⟩)
    | (go_at_call 11; refine (HL.out _ (by repeat (first | assumption | apply FormsAt.alloc))).mono ?_; rintro e w4 ⟨rfl, hb4⟩; have kf4 := FormsAt.below (by repeat (first | assumption | apply FormsAt.alloc)) hb4; have H4 := Lib.hid hb4; clear hb4))
  go_ret
  exact ⟨rfl, bt H4.out H2.out⟩
set_option maxHeartbeats 4000000 in
/-- The law EncReads. -/
theorem reads_any (D : Does) (x : Int) (hx : 0 ≤ x ∧ x ≤ 4294967295) (w : World) (hF : FormsAt w) : Calls Tryd.prog 4 #[.int .u32 x] w (True_ w) := by
  obtain ⟨c, e, he⟩ : ∃ c e, decP x = (c, e) := ⟨_, _, rfl⟩
  have HE := Lib.hid (fun w => D.decAt hx he w)
  have HR := Lib.hid (fun w => rdec_at hx he w)
  have HL := Lib.hid (fun w => live_any D w)
  clear D hx he
  obtain ⟨op, a, b, i⟩ := c
  unfold cV at HE HR
  go_enter Tryd.func4, Tryd.ntmps4
  go_wp2_with (first
    | (go_at_call 12; refine (HE.out _ (by repeat (first | assumption | apply FormsAt.alloc))).mono ?_; rintro e w2 ⟨rfl, hb2⟩; have kf2 := FormsAt.below (by repeat (first | assumption | apply FormsAt.alloc)) hb2; have H2 := Lib.hid hb2; clear hb2)
    | (go_at_call 13; refine (HR.out _).mono ?_; rintro e w3 ⟨rfl, hb3⟩; have kf3 := FormsAt.below (by repeat (first | assumption | apply FormsAt.alloc)) hb3; have H3 := Lib.hid hb3; have c0 := hb3.cell (p := ⟨w2.heap.size, 0, none⟩) (by simp); have c1 := hb3.cell (p := ⟨w2.heap.size, 1, none⟩) (by simp); have c2 := hb3.cell (p := ⟨w2.heap.size, 2, none⟩) (by simp); have c3 := hb3.cell (p := ⟨w2.heap.size, 3, none⟩) (by simp); have hz3 : w2.heap.size < w3.heap.size := by have := hb3.size; simp at this; omega
       clear hb3)
    | (go_at_call 11; refine (HL.out _ (by repeat (first | assumption | apply FormsAt.alloc))).mono ?_; rintro e w4 ⟨rfl, hb4⟩; have kf4 := FormsAt.below (by repeat (first | assumption | apply FormsAt.alloc)) hb4; have H4 := Lib.hid hb4
       have k0 := hb4.cell (p := ⟨w2.heap.size, 0, none⟩) (by simp; omega); have k1 := hb4.cell (p := ⟨w2.heap.size, 1, none⟩) (by simp; omega); have k2 := hb4.cell (p := ⟨w2.heap.size, 2, none⟩) (by simp; omega); have k3 := hb4.cell (p := ⟨w2.heap.size, 3, none⟩) (by simp; omega)
       have j0 := hb4.cell (p := ⟨w3.heap.size, 0, none⟩) (by simp); have j1 := hb4.cell (p := ⟨w3.heap.size, 1, none⟩) (by simp); have j2 := hb4.cell (p := ⟨w3.heap.size, 2, none⟩) (by simp); have j3 := hb4.cell (p := ⟨w3.heap.size, 3, none⟩) (by simp)
       clear hb4))
  go_ret
  exact ⟨rfl, bt H2.out (bt (below_one w2 _) (bt H3.out (bt (below_one w3 _) H4.out)))⟩
end Go.Proofs.YtfdhjkjljhgapaaDoor.Enc
