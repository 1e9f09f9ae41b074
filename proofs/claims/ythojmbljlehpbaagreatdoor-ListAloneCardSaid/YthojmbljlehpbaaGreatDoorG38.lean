/- The laws ListBack and ListAgain, walked. No condition but sizes. -/
import Derived.Test.YthojmbljlehpbaaGreatDoorG37
namespace Go.Proofs.YthojmbljlehpbaaGreatDoor.Lists
open Go.RowKit Go.Proofs.YthojmbljlehpbaaGreatDoor.Relax Go.Proofs.YthojmbljlehpbaaGreatDoor.Graph
open Go.Lib hiding intOf
open Go.Proofs.YthojmbljlehpbaaGreatDoor.Enc hiding below_one bt ret_bool

theorem print_ways (l : List PL) : (printP l = (printL l, 0) ∧ l.length ≤ 60000 ∧ mayAll l = true) ∨ ∃ e, (e = 1 ∨ e = 2) ∧ printP l = ([], e) := by
  unfold printP
  split
  · exact .inr ⟨2, .inr rfl, rfl⟩
  · split
    · rename_i h1 h2
      exact .inl ⟨rfl, by omega, h2⟩
    · exact .inr ⟨1, .inl rfl, rfl⟩
theorem fine_len {x : PL} (h : fineL x) : x.list.length ≤ 100000000000000 := by
  obtain ⟨hk1, hk2, hk3⟩ := may_list h.1
  omega
/-- What the laws of layer 22 ask of a list that is handed in. -/
structure InL (l : List PL) : Prop where
  n : ∀ x ∈ l, 0 ≤ x.n ∧ x.n ≤ 4294967295
  list : ∀ x ∈ l, x.list.length ≤ 100000000000000
theorem fine_all {l : List PL} (h : InL l) (hm : mayAll l = true) : ∀ x ∈ l, fineL x := fun x hx => by
  have h1 := h.n x hx
  unfold mayAll at hm
  rw [List.all_eq_true] at hm
  exact ⟨hm x hx, h1.1, by omega⟩
theorem lines_form {w : World} {v : Value} {l : List PL} (h : LinesR w v l) : ∃ p c, v = .slice p l.length c := SlR.form h
theorem print_size {l : List PL} (h : ∀ x ∈ l, fineL x) (hn : l.length ≤ 60000) : (printL l).length ≤ 281474976710655 := by
  have := printL_len h
  omega
set_option maxHeartbeats 16000000 in
set_option maxRecDepth 100000 in
theorem listBack_any (l : List PL) (v : Value) (w : World) (hL : LaidL w) (h8 : 8 ≤ w.heap.size) (h : LinesR w v l) (hi : InL l) :
    Calls Tryz.prog 6 #[v] w fun e w' => e = .returned (.bool true) ∧ Below w.heap.size w w' := by
  obtain ⟨p, c, rfl⟩ := lines_form h
  have HP := Lib.hid (print_any l _ w hL h hi.list hi.n)
  have HV : Hid (∀ W, Below w.heap.size w W → Calls Tryz.prog 15 #[] W fun e w' => e = .returned (.bool true) ∧ Below w.heap.size w w') := Lib.hid (fun W hW => (live_any W (hL.below hW) (Nat.le_trans h8 hW.size)).mono (fun e w' hh => ⟨hh.1, bt hW hh.2⟩))
  have HV2 : Hid (∀ W, Below w.heap.size w W → Calls Tryz.prog 15 #[] W fun e w' => e = .returned (.bool true) ∧ Below W.heap.size W w') := Lib.hid (fun W hW => live_any W (hL.below hW) (Nat.le_trans h8 hW.size))
  unfold PrintPost at HP
  rcases print_ways l with ⟨hp, hn, hm⟩ | ⟨e, he, hp⟩
  · rw [hp] at HP
    have hf := fine_all hi hm
    have HQ : Hid (∀ W, Below w.heap.size w W → Calls Tryz.prog 17 #[.string ⟨(printL l).toArray⟩] W fun e w' => ∃ p c, e = .returned (.tuple #[.slice p l.length c, .int .i64 0, .int .i64 0]) ∧ LinesR w' (.slice p l.length c) l ∧ Below w.heap.size w w') := Lib.hid (fun W hW => by
      have h := parse_any (printL l) W (hL.below hW) (Nat.le_trans h8 hW.size) (print_size hf hn)
      unfold ParsePost at h
      rw [parse_print hf hn] at h
      exact h.mono (fun e w' ⟨p, c, h1, h2, h3⟩ => ⟨p, c, h1, h2, bt hW h3⟩))
    have HS : Hid (∀ W q d, Below w.heap.size w W → LinesR W (.slice q l.length d) l → Calls Tryz.prog 16 #[.slice q l.length d, .slice p l.length c] W fun e w' => e = .returned (.bool true) ∧ Below w.heap.size w w') := Lib.hid (fun W q d hW hq => (sameLines_any l q p d c W hq (h.below hW) (by omega) hi.list).mono (fun e w' hh => ⟨hh.1, bt hW hh.2⟩))
    generalize printL l = s at HP HQ
    generalize l.length = n at HQ HS HP
    clear hL h8 h hi hp hn hm hf
    go_enter Tryz.func6, Tryz.ntmps6
    go_wp2_with (first
      | (go_at_call 13
         with_reducible refine HP.out.mono ?_
         rintro e w6 ⟨rfl, hb6⟩
         have HB6 := Lib.hid hb6
         clear hb6)
      | (go_at_call 17
         with_reducible refine (HQ.out _ HB6.out).mono ?_
         rintro e w7 ⟨p7, c7, rfl, hl7, hb7⟩
         have HL7 := Lib.hid hl7
         have HB7 := Lib.hid hb7
         clear hl7 hb7)
      | (go_at_call 15
         with_reducible refine (HV2.out _ HB7.out).mono ?_
         rintro e w8 ⟨rfl, hb8⟩
         have HB8 := Lib.hid (bt HB7.out hb8)
         have HL8 := Lib.hid (HL7.out.below hb8)
         clear hb8)
      | (go_at_call 16
         with_reducible refine (HS.out _ _ _ HB8.out HL8.out).mono ?_
         rintro e w9 ⟨rfl, hb9⟩
         have HB9 := Lib.hid hb9
         clear hb9))
    go_ret
    exact ⟨rfl, HB9.out⟩
  · rw [hp] at HP
    have e0 : ¬ e = 0 := by rcases he with rfl | rfl <;> decide
    clear hL h8 h hi hp he
    go_enter Tryz.func6, Tryz.ntmps6
    go_wp2_with (first
      | (go_at_call 13
         with_reducible refine HP.out.mono ?_
         rintro e w6 ⟨rfl, hb6⟩
         have HB6 := Lib.hid hb6
         clear hb6)
      | (go_at_call 15
         with_reducible refine (HV.out _ HB6.out).mono ?_
         rintro e w8 ⟨rfl, hb8⟩
         have HB8 := Lib.hid hb8
         clear hb8))
    go_ret
    exact ⟨rfl, HB8.out⟩
end Go.Proofs.YthojmbljlehpbaaGreatDoor.Lists
