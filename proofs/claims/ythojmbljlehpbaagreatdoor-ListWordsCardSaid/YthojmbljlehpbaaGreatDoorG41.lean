/- The law ListWords, walked. No condition but sizes. -/
import Derived.Test.YthojmbljlehpbaaGreatDoorG40
import Derived.Test.YthojmbljlehpbaaGreatDoorG05
import Derived.Test.YthojmbljlehpbaaGreatDoorG15
namespace Go.Proofs.YthojmbljlehpbaaGreatDoor.Lists
open Go.RowKit Go.Proofs.YthojmbljlehpbaaGreatDoor.Relax Go.Proofs.YthojmbljlehpbaaGreatDoor.Graph
open Go.Lib hiding intOf
open Go.Proofs.YthojmbljlehpbaaGreatDoor.Enc hiding below_one bt ret_bool

set_option maxHeartbeats 16000000 in
set_option maxRecDepth 100000 in
theorem listWords_any (l : List PL) (v : Value) (w : World) (hL : LaidL w) (h8 : 8 ≤ w.heap.size) (h : LinesR w v l) (hi : InL l) :
    Calls Tryz.prog 11 #[v] w fun e w' => e = .returned (.bool true) ∧ Below w.heap.size w w' := by
  obtain ⟨p, c, rfl⟩ := lines_form h
  have HP := Lib.hid (print_any l _ w hL h hi.list hi.n)
  have HV2 : Hid (∀ W, Below w.heap.size w W → Calls Tryz.prog 15 #[] W fun e w' => e = .returned (.bool true) ∧ Below W.heap.size W w') := Lib.hid (fun W hW => live_any W (hL.below hW) (Nat.le_trans h8 hW.size))
  unfold PrintPost at HP
  rcases print_ways l with ⟨hp, hn, hm⟩ | ⟨e, he, hp⟩
  · rw [hp] at HP
    have hf := fine_all hi hm
    have HQ : Hid (∀ W, Below w.heap.size w W → Calls Tryz.prog 17 #[.string ⟨(printL l).toArray⟩] W fun e w' => ∃ p c, e = .returned (.tuple #[.slice p l.length c, .int .i64 0, .int .i64 0]) ∧ LinesR w' (.slice p l.length c) l ∧ Below W.heap.size W w') := Lib.hid (fun W hW => by
      have h := parse_any (printL l) W (hL.below hW) (Nat.le_trans h8 hW.size) (print_size hf hn)
      unfold ParsePost at h
      rw [parse_print hf hn] at h
      exact h)
    rcases ha : asmP l with ⟨a, line, er⟩
    have HA : Hid (∀ W q d, Below w.heap.size w W → LinesR W (.slice q l.length d) l → Calls Tryz.prog 25 #[.slice q l.length d] W fun e w' => ∃ pw cw pk ck pp cp, e = .returned (.tuple #[.agg #[.slice pw a.words.length cw, .slice pk a.kinds.length ck, .slice pp a.places.length cp, .int .i64 a.rounds], .int .i64 line, .int .i64 er]) ∧ AsmR w' a (.slice pw a.words.length cw) (.slice pk a.kinds.length ck) (.slice pp a.places.length cp) ∧ Below W.heap.size W w') := Lib.hid (fun W q d hW hq => does.at_ ha _ W hq ⟨by omega, hi.list⟩ (hL.below hW).forms)
    have HL0 := Lib.hid h
    have HSA : Hid (∀ W pw cw pk ck pp cp pw2 cw2 pk2 ck2 pp2 cp2, AsmR W a (.slice pw a.words.length cw) (.slice pk a.kinds.length ck) (.slice pp a.places.length cp) → AsmR W a (.slice pw2 a.words.length cw2) (.slice pk2 a.kinds.length ck2) (.slice pp2 a.places.length cp2) → Calls Tryz.prog 26 #[.agg #[.slice pw a.words.length cw, .slice pk a.kinds.length ck, .slice pp a.places.length cp, .int .i64 a.rounds], .agg #[.slice pw2 a.words.length cw2, .slice pk2 a.kinds.length ck2, .slice pp2 a.places.length cp2, .int .i64 a.rounds]] W (Is (.bool true) W)) := Lib.hid (fun W _ _ _ _ _ _ _ _ _ _ _ _ h1 h2 => same_any a _ _ _ _ _ _ W h1 h2)
    generalize printL l = s at HP HQ
    obtain ⟨m, hm⟩ : ∃ m, m = l.length := ⟨_, rfl⟩
    rw [← hm] at HP HQ HA HL0 ⊢
    obtain ⟨nw, hnw⟩ : ∃ n, n = a.words.length := ⟨_, rfl⟩
    obtain ⟨nk, hnk⟩ : ∃ n, n = a.kinds.length := ⟨_, rfl⟩
    obtain ⟨np, hnp⟩ : ∃ n, n = a.places.length := ⟨_, rfl⟩
    rw [← hnw, ← hnk, ← hnp] at HA HSA
    clear hL h8 h hi hp hn hf ha hm hnw hnk hnp
    go_enter Tryz.func11, Tryz.ntmps11
    go_upto_region 6 with (first
      | (go_at_call 13
         with_reducible refine HP.out.mono ?_
         rintro e w6 ⟨rfl, hb6⟩
         have HB6 := Lib.hid hb6
         clear hb6)
      | (go_at_call 17
         with_reducible refine (HQ.out _ HB6.out).mono ?_
         rintro e w7 ⟨p7, c7, rfl, hl7, hb7⟩
         have HL7 := Lib.hid hl7
         have HB7 := Lib.hid (bt HB6.out hb7)
         clear hl7 hb7)
      | (go_at_call 25
         with_reducible refine (HA.out _ _ _ HB7.out (HL0.out.below HB7.out)).mono ?_
         rintro e w8 ⟨pw, cw, pk, ck, pp, cp, rfl, ha8, hb8⟩
         have HA8 := Lib.hid ha8
         have HB8 := Lib.hid (bt HB7.out hb8)
         have HL8 := Lib.hid (HL7.out.below hb8)
         clear ha8 hb8))
    obtain ⟨W1, hW1⟩ : ∃ W1, W1 = w8.alloc (.cells #[.slice pw nw cw, .slice pk nk ck, .slice pp np cp, .int .i64 a.rounds] 46) := ⟨_, rfl⟩
    rw [← hW1]
    have hb1 : Below w8.heap.size w8 W1 := by rw [hW1]; exact below_one w8 _
    have hx1 : W1.heap[w8.heap.size]? = some (.cells #[.slice pw nw cw, .slice pk nk ck, .slice pp np cp, .int .i64 a.rounds] 46 (0, 0)) := by rw [hW1]; exact heap_alloc_new w8 _
    have HA1 := Lib.hid (HA8.out.below hb1)
    have HB1 := Lib.hid (bt HB8.out hb1)
    have HL1 := Lib.hid (HL8.out.below hb1)
    generalize w8.heap.size = q1 at hx1 ⊢
    clear hW1 hb1
    have hq1 : q1 < W1.heap.size := (Array.getElem?_eq_some_iff.1 hx1).1
    go_upto_region 7 with (
      go_at_call 25
      with_reducible refine (HA.out _ _ _ HB1.out HL1.out).mono ?_
      rintro e w9 ⟨pw2, cw2, pk2, ck2, pp2, cp2, rfl, ha9, hb9⟩
      have HA9 := Lib.hid ha9
      have HB9 := Lib.hid (bt HB1.out hb9)
      have HC9 := Lib.hid (HA1.out.below hb9)
      have HX9 := Lib.hid ((hb9.block _ hq1).trans hx1)
      clear ha9 hb9)
    obtain ⟨W2, hW2⟩ : ∃ W2, W2 = w9.alloc (.cells #[.slice pw2 nw cw2, .slice pk2 nk ck2, .slice pp2 np cp2, .int .i64 a.rounds] 46) := ⟨_, rfl⟩
    rw [← hW2]
    have hb2 : Below w9.heap.size w9 W2 := by rw [hW2]; exact below_one w9 _
    have hx2 : W2.heap[w9.heap.size]? = some (.cells #[.slice pw2 nw cw2, .slice pk2 nk ck2, .slice pp2 np cp2, .int .i64 a.rounds] 46 (0, 0)) := by rw [hW2]; exact heap_alloc_new w9 _
    have HA2 := Lib.hid (HA9.out.below hb2)
    have HC2 := Lib.hid (HC9.out.below hb2)
    have HB2 := Lib.hid (bt HB9.out hb2)
    have hx12 := (hb2.block _ (Array.getElem?_eq_some_iff.1 HX9.out).1).trans HX9.out
    have HQ1 : Hid (∀ W, Below W2.heap.size W2 W → W.cell? ⟨q1, 0, none⟩ = some (.slice pw nw cw) ∧ W.cell? ⟨q1, 1, none⟩ = some (.slice pk nk ck) ∧ W.cell? ⟨q1, 2, none⟩ = some (.slice pp np cp) ∧ W.cell? ⟨q1, 3, none⟩ = some (.int .i64 a.rounds)) := Lib.hid (fun W hW => by
      have h := (hW.block _ (Array.getElem?_eq_some_iff.1 hx12).1).trans hx12
      exact ⟨cell_of_block h rfl, cell_of_block h rfl, cell_of_block h rfl, cell_of_block h rfl⟩)
    have HQ2 : Hid (∀ W, Below W2.heap.size W2 W → W.cell? ⟨w9.heap.size, 0, none⟩ = some (.slice pw2 nw cw2) ∧ W.cell? ⟨w9.heap.size, 1, none⟩ = some (.slice pk2 nk ck2) ∧ W.cell? ⟨w9.heap.size, 2, none⟩ = some (.slice pp2 np cp2) ∧ W.cell? ⟨w9.heap.size, 3, none⟩ = some (.int .i64 a.rounds)) := Lib.hid (fun W hW => by
      have h := (hW.block _ (Array.getElem?_eq_some_iff.1 hx2).1).trans hx2
      exact ⟨cell_of_block h rfl, cell_of_block h rfl, cell_of_block h rfl, cell_of_block h rfl⟩)
    clear hW2 hb2 hx12 hx2 hx1 hq1
    go_wp2_with (first
      | (go_at_call 15
         with_reducible refine (HV2.out _ HB2.out).mono ?_
         rintro e w10 ⟨rfl, hb10⟩
         have HA10 := Lib.hid (HA2.out.below hb10)
         have HC10 := Lib.hid (HC2.out.below hb10)
         have HB10 := Lib.hid (bt HB2.out hb10)
         obtain ⟨y0, y1, y2, y3⟩ := HQ1.out _ hb10
         obtain ⟨z0, z1, z2, z3⟩ := HQ2.out _ hb10
         clear hb10)
      | (go_at_call 26
         with_reducible refine (HSA.out _ _ _ _ _ _ _ _ _ _ _ _ _ HC10.out HA10.out).mono ?_
         rintro e w11 ⟨rfl, hb11⟩
         have HB11 := Lib.hid (bt HB10.out hb11)
         clear hb11))
    go_ret
    exact ⟨rfl, HB11.out⟩
  · rw [hp] at HP
    have e0 : ¬ e = 0 := by rcases he with rfl | rfl <;> decide
    clear hL h8 h hi hp he
    go_enter Tryz.func11, Tryz.ntmps11
    go_wp2_with (first
      | (go_at_call 13
         with_reducible refine HP.out.mono ?_
         rintro e w6 ⟨rfl, hb6⟩
         have HB6 := Lib.hid hb6
         clear hb6)
      | (go_at_call 15
         with_reducible refine (HV2.out _ HB6.out).mono ?_
         rintro e w8 ⟨rfl, hb8⟩
         have HB8 := Lib.hid (bt HB6.out hb8)
         clear hb8))
    go_ret
    exact ⟨rfl, HB8.out⟩
end Go.Proofs.YthojmbljlehpbaaGreatDoor.Lists
