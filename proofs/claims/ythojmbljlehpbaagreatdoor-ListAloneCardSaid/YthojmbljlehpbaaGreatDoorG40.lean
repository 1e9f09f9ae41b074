/- The law ListAgain, walked. No condition but sizes. -/
import Derived.Test.YthojmbljlehpbaaGreatDoorG38
namespace Go.Proofs.YthojmbljlehpbaaGreatDoor.Lists
open Go.RowKit Go.Proofs.YthojmbljlehpbaaGreatDoor.Relax Go.Proofs.YthojmbljlehpbaaGreatDoor.Graph
open Go.Lib hiding intOf
open Go.Proofs.YthojmbljlehpbaaGreatDoor.Enc hiding below_one bt ret_bool

theorem fine_in {l : List PL} (h : ∀ x ∈ l, fineL x) : InL l := ⟨fun x hx => by have := (h x hx).2; omega, fun x hx => fine_len (h x hx)⟩
theorem fine_print {l : List PL} (h : ∀ x ∈ l, fineL x) (hn : l.length ≤ 60000) : printP l = (printL l, 0) := by
  unfold printP mayAll
  rw [if_neg (by omega), if_pos]
  rw [List.all_eq_true]
  exact fun x hx => (h x hx).1
set_option maxHeartbeats 16000000 in
set_option maxRecDepth 100000 in
theorem listAgain_any (s : List UInt8) (w : World) (hL : LaidL w) (h8 : 8 ≤ w.heap.size) (hs : s.length ≤ 281474976710655) :
    Calls Tryz.prog 7 #[.string ⟨s.toArray⟩] w fun e w' => e = .returned (.bool true) ∧ Below w.heap.size w w' := by
  have HV2 : Hid (∀ W, Below w.heap.size w W → Calls Tryz.prog 15 #[] W fun e w' => e = .returned (.bool true) ∧ Below W.heap.size W w') := Lib.hid (fun W hW => live_any W (hL.below hW) (Nat.le_trans h8 hW.size))
  have hA := parse_any s w hL h8 hs
  unfold ParsePost at hA
  rcases hp : parseP s with ⟨l, n, e⟩
  rw [hp] at hA
  have HA := Lib.hid hA
  by_cases he : e = 0
  · subst he
    obtain ⟨hf, hn, rfl⟩ := parse_fine hp
    have HP : Hid (∀ W q d, Below w.heap.size w W → LinesR W (.slice q l.length d) l → Calls Tryz.prog 13 #[.slice q l.length d] W fun e w' => e = .returned (.tuple #[.string ⟨(printL l).toArray⟩, .int .i64 0]) ∧ Below W.heap.size W w') := Lib.hid (fun W q d hW hq => by
      have h := print_any l _ W (hL.below hW) hq (fine_in hf).list (fine_in hf).n
      unfold PrintPost at h
      rw [fine_print hf hn] at h
      exact h)
    have HQ : Hid (∀ W, Below w.heap.size w W → Calls Tryz.prog 17 #[.string ⟨(printL l).toArray⟩] W fun e w' => ∃ p c, e = .returned (.tuple #[.slice p l.length c, .int .i64 0, .int .i64 0]) ∧ LinesR w' (.slice p l.length c) l ∧ Below W.heap.size W w') := Lib.hid (fun W hW => by
      have h := parse_any (printL l) W (hL.below hW) (Nat.le_trans h8 hW.size) (print_size hf hn)
      unfold ParsePost at h
      rw [parse_print hf hn] at h
      exact h)
    have HS : Hid (∀ W q d p c, LinesR W (.slice q l.length d) l → LinesR W (.slice p l.length c) l → Calls Tryz.prog 16 #[.slice q l.length d, .slice p l.length c] W fun e w' => e = .returned (.bool true) ∧ Below W.heap.size W w') := Lib.hid (fun W q d p c hq hp => sameLines_any l q p d c W hq hp (by omega) (fine_in hf).list)
    generalize printL l = t at HP HQ
    obtain ⟨m, hm⟩ : ∃ m, m = l.length := ⟨_, rfl⟩
    rw [← hm] at HA HP HQ HS
    clear hL h8 hs hp hn hf hm hA
    go_enter Tryz.func7, Tryz.ntmps7
    go_upto_region 2 with (
      go_at_call 17
      with_reducible refine HA.out.mono ?_
      rintro e w6 ⟨p6, c6, rfl, hl6, hb6⟩
      have HL6 := Lib.hid hl6
      have HB6 := Lib.hid hb6
      clear hl6 hb6)
    go_wp2_with (first
      | (go_at_call 13
         with_reducible refine (HP.out _ _ _ HB6.out HL6.out).mono ?_
         rintro e w7 ⟨rfl, hb7⟩
         have HL7 := Lib.hid (HL6.out.below hb7)
         have HB7 := Lib.hid (bt HB6.out hb7)
         clear hb7)
      | (go_at_call 17
         with_reducible refine (HQ.out _ HB7.out).mono ?_
         rintro e w8 ⟨p8, c8, rfl, hl8, hb8⟩
         have HL8 := Lib.hid (HL7.out.below hb8)
         have HM8 := Lib.hid hl8
         have HB8 := Lib.hid (bt HB7.out hb8)
         clear hb8 hl8)
      | (go_at_call 15
         with_reducible refine (HV2.out _ HB8.out).mono ?_
         rintro e w9 ⟨rfl, hb9⟩
         have HL9 := Lib.hid (HL8.out.below hb9)
         have HM9 := Lib.hid (HM8.out.below hb9)
         have HB9 := Lib.hid (bt HB8.out hb9)
         clear hb9)
      | (go_at_call 16
         with_reducible refine (HS.out _ _ _ _ _ HM9.out HL9.out).mono ?_
         rintro e w10 ⟨rfl, hb10⟩
         have HB10 := Lib.hid (bt HB9.out hb10)
         clear hb10))
    go_ret
    exact ⟨rfl, HB10.out⟩
  · obtain ⟨rfl, hn⟩ := parse_bad hp he
    clear hL h8 hs hp hA
    go_enter Tryz.func7, Tryz.ntmps7
    go_wp2_with (first
      | (go_at_call 17
         with_reducible refine HA.out.mono ?_
         rintro e w6 ⟨p6, c6, rfl, hl6, hb6⟩
         have HB6 := Lib.hid hb6
         clear hl6 hb6)
      | (go_at_call 15
         with_reducible refine (HV2.out _ HB6.out).mono ?_
         rintro e w8 ⟨rfl, hb8⟩
         have HB8 := Lib.hid (bt HB6.out hb8)
         clear hb8))
    go_ret
    exact ⟨rfl, HB8.out⟩
end Go.Proofs.YthojmbljlehpbaaGreatDoor.Lists
