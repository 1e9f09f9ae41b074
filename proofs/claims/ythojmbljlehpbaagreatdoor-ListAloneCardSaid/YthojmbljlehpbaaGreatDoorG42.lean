/- The law ListAlone, walked. No condition but sizes. -/
import Derived.Test.YthojmbljlehpbaaGreatDoorG40
namespace Go.Proofs.YthojmbljlehpbaaGreatDoor.Lists
open Go.RowKit Go.Proofs.YthojmbljlehpbaaGreatDoor.Relax Go.Proofs.YthojmbljlehpbaaGreatDoor.Graph
open Go.Lib hiding intOf
open Go.Proofs.YthojmbljlehpbaaGreatDoor.Enc hiding below_one bt ret_bool

/-- A line of a list, as a list of one. -/
theorem lines_piece {w : World} {b o k c : Nat} {x : PL} {lp : Option Addr} {lc : Nat} (h : LineR w b (o + k * 7) x (.slice lp x.list.length lc)) (hb : b < w.heap.size) (hk : k < c) (hc : c ≤ 9223372036854775807) : LinesR w (.slice (some ⟨b, o + k * 7, none⟩) 1 (c - k)) [x] := by
  refine .inr ⟨b, o + k * 7, c - k, rfl, by simp, ⟨by show 1 ≤ c - k; omega, by omega⟩, hb, fun i hi z hz => ?_⟩
  obtain rfl : i = 0 := by have : i < 1 := hi; omega
  injection hz with hz
  subst hz
  exact ⟨_, by simpa using h⟩
set_option maxHeartbeats 16000000 in
set_option maxRecDepth 100000 in
theorem listAlone_any (l : List PL) (v : Value) (w : World) (hL : LaidL w) (h8 : 8 ≤ w.heap.size) (h : LinesR w v l) (hi : InL l) (hn9 : l.length ≤ 100000000000000) :
    Calls Tryz.prog 10 #[v] w fun e w' => e = .returned (.bool true) ∧ Below w.heap.size w w' := by
  obtain ⟨p, c, rfl⟩ := lines_form h
  obtain ⟨n, hnn⟩ : ∃ n, n = l.length := ⟨_, rfl⟩
  have HA : Hid (∀ k, k < n → ∀ W, Below w.heap.size w W → ∃ b o x lp lc, p = some ⟨b, o, none⟩ ∧ l[k]? = some x ∧ b < W.heap.size ∧ n ≤ c ∧ c ≤ 9223372036854775807 ∧ LineR W b (o + k * 7) x (.slice lp x.list.length lc)) := Lib.hid (fun k hk W hW => lines_at (by rw [hnn]; exact h.below hW) hnn hk)
  have HLL : Hid (∀ W, Below w.heap.size w W → LaidL W ∧ 8 ≤ W.heap.size) := Lib.hid (fun W hW => ⟨hL.below hW, Nat.le_trans h8 hW.size⟩)
  have HI := Lib.hid hi
  have HV2 : Hid (∀ W, Below w.heap.size w W → Calls Tryz.prog 15 #[] W fun e w' => e = .returned (.bool true) ∧ Below W.heap.size W w') := Lib.hid (fun W hW => live_any W (hL.below hW) (Nat.le_trans h8 hW.size))
  have hcn : n ≤ c ∧ c ≤ 9223372036854775807 ∨ n = 0 := by
    by_cases h0 : n = 0
    · exact .inr h0
    · obtain ⟨_, _, _, _, _, _, _, _, h1, h2, _⟩ := HA.out 0 (by omega) w (Below.refl _ _)
      exact .inl ⟨h1, h2⟩
  rw [← hnn] at hn9 ⊢
  clear hL h8 h hi hnn
  go_enter Tryz.func10, Tryz.ntmps10
  go_upto_if 11 with (fail)
  go_cut [0] from 11 to 13 (fun v wc => ∃ n', n' ≤ n ∧ n' ≤ 500 ∧ v = .slice p n' c ∧ Hid (Below w.heap.size w wc))
  case first =>
    by_cases hq : 500 < n
    · have q1 : (500 : Int) < n := by omega
      obtain ⟨gb, go_, _, _, _, rfl, _⟩ := HA.out 0 (by omega) w (Below.refl _ _)
      have q2 : (500 : Int) ≤ c := by omega
      go_wp2
      go_meet
      exact ⟨500, by omega, by omega, rfl, Lib.hid (Below.refl _ _)⟩
    · have q1 : ¬ (500 : Int) < n := by omega
      go_wp2
      go_meet
      exact ⟨n, by omega, by omega, rfl, Lib.hid (Below.refl _ _)⟩
  case rest =>
    rename_i K hK
    refine hK _ _ ?_
    clear hK K
    obtain ⟨n', hn1, hn2, rfl, HW⟩ := hcut
    have i2 : (n' : Int) ≤ 500 := by omega
    go_wp2
    go_loopw [3, 4, 5, 6, 7, 8] (fun i _ _ _ _ _ wr => ∃ k : Nat, k ≤ n' ∧ i = .int .i64 k ∧ Hid (Below w.heap.size w wr)) (fun i _ _ _ _ _ _ => n' - (intOf i).toNat)
    case atStart => exact ⟨0, Nat.zero_le _, rfl, HW⟩
    case round =>
      obtain ⟨k, hk, rfl, HB⟩ := hrel
      have k0 : (0 : Int) ≤ k := by omega
      by_cases hkn : k < n'
      · obtain ⟨gb, go_, x, lp, lc, rfl, hx, hbl, hc1, hc2, _⟩ := HA.out k (by omega) wr HB.out
        have k1 : (k : Int) < n' := by omega
        have k2 : (k : Int) + 1 ≤ c := by omega
        have c2 : (c : Int) ≤ 9223372036854775807 := by omega
        have HX : Hid (∀ W, Below w.heap.size w W → LinesR W (.slice (some ⟨gb, go_ + k * 7, none⟩) 1 (c - k)) [x]) := Lib.hid (fun W hW => by
          obtain ⟨b, o, y, lp2, lc2, he, hy, hb, _, _, hL⟩ := HA.out k (by omega) W hW
          injection he with he
          injection he with e1 e2
          subst e1 e2
          rw [hx] at hy
          injection hy with hy
          subst hy
          exact lines_piece hL hb (by omega) hc2)
        have hix : InL [x] := ⟨fun y hy => by rw [List.mem_singleton.1 hy]; exact HI.out.n x (List.mem_of_getElem? hx), fun y hy => by rw [List.mem_singleton.1 hy]; exact HI.out.list x (List.mem_of_getElem? hx)⟩
        have HP : Hid (Calls Tryz.prog 13 #[.slice (some ⟨gb, go_ + k * 7, none⟩) 1 (c - k)] wr (PrintPost [x] wr)) := Lib.hid (print_any [x] _ wr (HLL.out _ HB.out).1 (HX.out _ HB.out) hix.list hix.n)
        unfold PrintPost at HP
        have HKN := Lib.hid hkn
        rcases print_ways [x] with ⟨hp, hn, hm⟩ | ⟨e, he, hp⟩
        · rw [hp] at HP
          have hf := fine_all hix hm
          have HQ : Hid (∀ W, Below w.heap.size w W → Calls Tryz.prog 17 #[.string ⟨(printL [x]).toArray⟩] W fun e w' => ∃ p c, e = .returned (.tuple #[.slice p 1 c, .int .i64 0, .int .i64 0]) ∧ LinesR w' (.slice p 1 c) [x] ∧ Below W.heap.size W w') := Lib.hid (fun W hW => by
            have h := parse_any (printL [x]) W (HLL.out _ hW).1 (HLL.out _ hW).2 (print_size hf hn)
            unfold ParsePost at h
            rw [parse_print hf hn] at h
            exact h)
          have HS : Hid (∀ W q d, Below w.heap.size w W → LinesR W (.slice q 1 d) [x] → Calls Tryz.prog 16 #[.slice q 1 d, .slice (some ⟨gb, go_ + k * 7, none⟩) 1 (c - k)] W fun e w' => e = .returned (.bool true) ∧ Below W.heap.size W w') := Lib.hid (fun W q d hW hq => sameLines_any [x] q _ d _ W hq (HX.out W hW) (by simp) hix.list)
          generalize printL [x] = s at HP HQ
          clear hix hx hbl hp hn hm hf hkn HX
          go_wp2_with (first
            | (go_at_call 13
               refine HP.out.mono ?_
               rintro e w6 ⟨rfl, hb6⟩
               have HB6 := Lib.hid (bt HB.out hb6)
               clear hb6)
            | (go_at_call 17
               refine (HQ.out _ HB6.out).mono ?_
               rintro e w7 ⟨p7, c7, rfl, hl7, hb7⟩
               have HL7 := Lib.hid hl7
               have HB7 := Lib.hid (bt HB6.out hb7)
               clear hl7 hb7)
            | (go_at_call 16
               refine (HS.out _ _ _ HB7.out HL7.out).mono ?_
               rintro e w8 ⟨rfl, hb8⟩
               have HB8 := Lib.hid (bt HB7.out hb8)
               clear hb8))
          go_roundw
          case rel => exact ⟨k + 1, by have := HKN.out; omega, by go_num, HB8⟩
          case measure => have := HKN.out; simp [intOf]; omega
        · rw [hp] at HP
          have e0 : ¬ e = 0 := by rcases he with rfl | rfl <;> decide
          clear hix hx hbl hp he HX
          go_wp2_with (first
            | (go_at_call 13
               refine HP.out.mono ?_
               rintro e w6 ⟨rfl, hb6⟩
               have HB6 := Lib.hid (bt HB.out hb6)
               clear hb6)
            | (go_at_call 15
               refine (HV2.out _ HB6.out).mono ?_
               rintro e w8 ⟨rfl, hb8⟩
               have HB8 := Lib.hid (bt HB6.out hb8)
               clear hb8))
          go_ret
          exact ⟨rfl, HB8.out⟩
      · have k1 : ¬ (k : Int) < n' := by omega
        go_wp2_with (
          go_at_call 15
          refine (HV2.out _ HB.out).mono ?_
          rintro e w8 ⟨rfl, hb8⟩
          have HB8 := Lib.hid (bt HB.out hb8)
          clear hb8)
        go_ret
        exact ⟨rfl, HB8.out⟩
end Go.Proofs.YthojmbljlehpbaaGreatDoor.Lists
