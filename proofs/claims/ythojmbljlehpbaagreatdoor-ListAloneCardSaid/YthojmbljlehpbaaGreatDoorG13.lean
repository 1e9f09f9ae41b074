/- The words of a line written. No condition but that writer, map, places and lists lie as they say. -/
import Derived.Test.YthojmbljlehpbaaGreatDoorG12
import Derived.Deep.RegionHeld3
namespace Go.Proofs.YthojmbljlehpbaaGreatDoor.Relax
open Go.RowKit Go.Proofs.YthojmbljlehpbaaGreatDoor.Enc Go.Proofs.YthojmbljlehpbaaGreatDoor.Graph Go.Maps

theorem PutPost.below_chain {Z bm sb N bw : Nat} {G : Nat → Prop} {ws : List (Int × Int)} {w w2 : World} (hb : Below w.heap.size w w2) {e : Ending} {w' : World} (h : PutPost Z bm sb N bw G ws w2 e w') : PutPost Z bm sb N bw G ws w e w' := PutPost.after hb h
/-- A line's box behind a call on the writer. -/
theorem BoxL.wk {w wr w2 : World} {x : PL} {v : Value} {G G' : Nat → Prop} (h : BoxL w wr x v) (hk : WK wr w2 G G') (hg : ¬ G w.heap.size) (hb : Below w.heap.size w w2) : BoxL w w2 x v :=
  ⟨hb, Nat.lt_of_lt_of_le h.sz hk.size, hk.cell h.sz hg h.c0, hk.cell h.sz hg h.c1, hk.cell h.sz hg h.c2, hk.cell h.sz hg h.c3, hk.cell h.sz hg h.c4, hk.cell h.sz hg h.c5, hk.cell h.sz hg h.c6⟩
/-- .. the cells alone. -/
structure CellL (b : Nat) (wr : World) (x : PL) (v : Value) : Prop where
  sz : b < wr.heap.size
  c0 : wr.cell? ⟨b, 0, none⟩ = some (.int .i64 x.op)
  c4 : wr.cell? ⟨b, 4, none⟩ = some (.int .u32 x.n)
  c5 : wr.cell? ⟨b, 5, none⟩ = some (.int .i64 x.label)
  c6 : wr.cell? ⟨b, 6, none⟩ = some v
theorem CellL.wk {b : Nat} {wr w2 : World} {x : PL} {v : Value} {G G' : Nat → Prop} (h : CellL b wr x v) (hk : WK wr w2 G G') (hg : ¬ G b) : CellL b w2 x v :=
  ⟨Nat.lt_of_lt_of_le h.sz hk.size, hk.cell h.sz hg h.c0, hk.cell h.sz hg h.c4, hk.cell h.sz hg h.c5, hk.cell h.sz hg h.c6⟩
theorem put_br {x : PL} {reach : Int} {l : List PL} {f : Nat → Int} (h : brB x.op = true) : putP x reach (placeL l f) = brW l f x.op x.a x.b reach x.label := by
  unfold putP brW wordOf
  rw [if_pos h]
theorem put_plain {x : PL} {reach : Int} {l : List PL} {f : Nat → Int} (h : brB x.op = false) : putP x reach (placeL l f) = [((encP ⟨x.op, x.a, x.b, x.imm⟩).1, 1)] ++
    (if x.op = 2 then [(x.n, 2)] else if x.op = 41 ∨ x.op = 43 then [(placeL l f x.label, 2)] else if x.op = 42 then [((x.list.length : Int), 3)] ++ x.list.map (fun k => (placeL l f k, 3)) else []) := by
  unfold putP wordOf
  rw [if_neg (by rw [h]; simp)]; rfl
set_option maxHeartbeats 8000000 in
set_option maxRecDepth 100000 in
theorem line_prog (l : List PL) (f : Nat → Int) (Z bm sb N bw : Nat) (G : Nat → Prop) (vw vk : Value) (ws : List (Int × Int)) (x : PL) (vp : Option Addr) (vc : Nat) (reach : Int) (w0 w : World) (h : We w l f Z bm sb N bw G vw vk ws) (hl : ws.length ≤ 90000)
    (hb0 : Below w0.heap.size w0 w) (hz0 : w0.heap.size ≤ Z) (hI : IntsR w0 (.slice vp x.list.length vc) x.list) (hf : Fine x) (ho : x.op ≠ 0) :
    Calls Tryz.prog 53 #[.pointer (some ⟨bw, 0, none⟩), lineV x vp x.list.length vc, .int .i64 reach] w (PutPost Z bm sb N bw G (ws ++ putP x reach (placeL l f)) w) := by
  have hgo := fine_goals hf
  have hgl := goals_len hf
  obtain ⟨hm, ho1, ho2⟩ := fine_may hf
  have hgn := h.not_new (Nat.le_refl _)
  have HA0 := Lib.hid (h.below (below_one w (.cells #[.int .i64 x.op, .int .i64 x.a, .int .i64 x.b, .int .i64 x.imm, .int .u32 x.n, .int .i64 x.label, .slice vp x.list.length vc] 52)))
  have HX0 := Lib.hid (BoxL.start w 52 x (.slice vp x.list.length vc))
  have HCO := Lib.hid (fun w => codeOf_prog x vp x.list.length vc w)
  have HI := Lib.hid hI
  have HB0 := Lib.hid hb0
  have HGN := Lib.hid hgn
  have HBZ := Lib.hid (fun (wr : World) (G' : Nat → Prop) (hk : WK w wr G G') => hb0.trans ((hk.below (fun b hb => (h.wr.lt hb).1) h.zs).mono hz0))
  obtain ⟨br, hbr⟩ : ∃ b, brB x.op = b := ⟨_, rfl⟩
  have HBR := Lib.hid (fun w => hbr ▸ branches_prog x.op w)
  unfold cV codeOf at HCO
  unfold lineV at HCO ⊢
  simp only at HCO
  cases br
  case true =>
    have hlab : 0 ≤ x.label ∧ x.label ≤ 100000 := hgo x.label (by unfold goalsP leadB; rw [hbr]; simp)
    have hop : 30 ≤ x.op ∧ x.op ≤ 40 := by unfold brB at hbr; simpa using hbr
    rw [put_br hbr]
    have HBB := Lib.hid (fun (W : World) hW => branch_prog l f Z bm sb N bw G vw vk ws x.op x.a x.b x.imm x.label reach W hW (by omega) hlab hop)
    unfold cV at HBB
    simp only at HBB
    clear h hgo hgl hm ho1 ho2 hgn hf hI hb0 hbr hlab hop ho
    go_enter Tryz.func53, Tryz.ntmps53
    go_wp2_with (first
      | (go_at_call 86; refine (HCO.out _).mono ?_; rintro e w2 ⟨rfl, hb⟩; have HB2 := Lib.hid (HX0.out.next hb); have HA2 := Lib.hid (HA0.out.below hb); obtain ⟨_, z1, d0, d1, d2, d3, d4, d5, d6⟩ := HB2.out; clear hb)
      | (go_at_call 82; refine (HBR.out _).mono ?_; rintro e w2 ⟨rfl, hw2⟩; have hw3 := hw2.symm; clear hw2; subst hw3)
      | (go_at_call 87; refine (HBB.out _ (HA2.out.below (below_one _ _))).mono ?_; rintro e w3 hp; have HPP := Lib.hid (PutPost.after (bt HB2.out.b (below_one _ _)) hp); clear hp; obtain ⟨rfl, _⟩ := HPP.out))
    go_end0
    exact HPP.out
  case false =>
    rw [put_plain hbr]
    obtain ⟨op, fa, fb, imm, nn, label, list⟩ := x
    simp only at *
    have HE2 := Lib.hid hgo
    have hlab0 : leadB op = true → 0 ≤ label ∧ label ≤ 100000 := fun h => hgo label (by unfold goalsP; simp only; rw [if_pos h]; simp)
    have hlist0 : leadB op = false → ∀ k ∈ list, 0 ≤ k ∧ k ≤ 100000 := fun h k hk => hgo k (by unfold goalsP; simp only; rw [if_neg (by rw [h]; simp)]; exact hk)
    have hlen0 : leadB op = false → list.length ≤ 400 := fun h => by
      unfold goalsP at hgl
      simp only at hgl
      rw [if_neg (by rw [h]; simp)] at hgl; exact hgl
    clear h hm ho1 ho2 hgn hf hI hb0 hgo hgl HE2
    by_cases h2 : op = 2
    · rw [if_pos h2]
      subst h2
      clear hlab0 hlist0 hlen0 hbr ho
      generalize hn : list.length = n at *
      clear hn
      go_enter Tryz.func53, Tryz.ntmps53
      go_wp2_with (first
        | (go_at_call 86; refine (HCO.out _).mono ?_; rintro e w2 ⟨rfl, hb⟩; have HB2 := Lib.hid (HX0.out.next hb); have HA2 := Lib.hid (HA0.out.below hb); obtain ⟨_, z1, d0, d1, d2, d3, d4, d5, d6⟩ := HB2.out; clear hb)
        | (go_at_call 82; refine (HBR.out _).mono ?_; rintro e w2 ⟨rfl, hw2⟩; have hw3 := hw2.symm; clear hw2; subst hw3)
        | (go_at_call 88; refine (ins_we (c := ⟨2, fa, fb, imm⟩) (HA2.out.below (below_one _ _)) (by omega)).mono ?_; rintro e w3 ⟨rfl, G1, v1, v2, h1, h2⟩
           have HA3 := Lib.hid (We.next (HA2.out.below (below_one _ _)) h1 h2)
           have HK3 := Lib.hid ((WK.of_below G (bt HB2.out.b (below_one _ _))).trans h2)
           have HC3 := Lib.hid ((CellL.wk (b := w.heap.size) ⟨Nat.lt_of_lt_of_le z1 (below_one _ _).size, keep_cell (below_one _ _) z1 d0, keep_cell (below_one _ _) z1 d4, keep_cell (below_one _ _) z1 d5, keep_cell (below_one _ _) z1 d6⟩ h2 HGN.out : CellL w.heap.size w3 ⟨2, fa, fb, imm, nn, label, list⟩ (.slice vp n vc)))
           have HG3 := Lib.hid (not_next h2 (Nat.lt_of_lt_of_le z1 (below_one _ _).size) HGN.out)
           obtain ⟨y0, x0, x4, x5, x6⟩ := HC3.out
           clear h1 h2)
        | (go_at_call 89; refine (put_we 2 nn HA3.out (by simp; omega)).mono ?_; rintro e w4 hp; have HPP := Lib.hid (PutPost.chain HK3.out hp); clear hp; obtain ⟨rfl, _⟩ := HPP.out))
      go_end0
      exact put_app HPP.out
    by_cases h4 : op = 41 ∨ op = 43
    · rw [if_neg h2, if_pos h4]
      have hlab := hlab0 (by unfold leadB; rcases h4 with h | h <;> rw [h] <;> rfl)
      clear hlab0 hlist0 hlen0 hbr ho h2
      generalize hn : list.length = n at *
      clear hn
      rcases h4 with h4 | h4
      · subst h4
        go_enter Tryz.func53, Tryz.ntmps53
        go_wp2_with (first
          | (go_at_call 86; refine (HCO.out _).mono ?_; rintro e w2 ⟨rfl, hb⟩; have HB2 := Lib.hid (HX0.out.next hb); have HA2 := Lib.hid (HA0.out.below hb); obtain ⟨_, z1, d0, d1, d2, d3, d4, d5, d6⟩ := HB2.out; clear hb)
          | (go_at_call 82; refine (HBR.out _).mono ?_; rintro e w2 ⟨rfl, hw2⟩; have hw3 := hw2.symm; clear hw2; subst hw3)
          | (go_at_call 88; refine (ins_we (c := ⟨41, fa, fb, imm⟩) (HA2.out.below (below_one _ _)) (by omega)).mono ?_; rintro e w3 ⟨rfl, G1, v1, v2, h1, h2⟩
             have HA3 := Lib.hid (We.next (HA2.out.below (below_one _ _)) h1 h2)
             have HK3 := Lib.hid ((WK.of_below G (bt HB2.out.b (below_one _ _))).trans h2)
             have HC3 := Lib.hid ((CellL.wk (b := w.heap.size) ⟨Nat.lt_of_lt_of_le z1 (below_one _ _).size, keep_cell (below_one _ _) z1 d0, keep_cell (below_one _ _) z1 d4, keep_cell (below_one _ _) z1 d5, keep_cell (below_one _ _) z1 d6⟩ h2 HGN.out : CellL w.heap.size w3 ⟨41, fa, fb, imm, nn, label, list⟩ (.slice vp n vc)))
             have HG3 := Lib.hid (not_next h2 (Nat.lt_of_lt_of_le z1 (below_one _ _).size) HGN.out)
             obtain ⟨y0, x0, x4, x5, x6⟩ := HC3.out
             clear h1 h2)
          | (go_at_call 90; refine (label_we 2 label HA3.out (by simp; omega) hlab).mono ?_; rintro e w4 hp; have HPP := Lib.hid (PutPost.chain HK3.out hp); clear hp; obtain ⟨rfl, _⟩ := HPP.out))
        go_end0
        exact put_app HPP.out
      · subst h4
        go_enter Tryz.func53, Tryz.ntmps53
        go_wp2_with (first
          | (go_at_call 86; refine (HCO.out _).mono ?_; rintro e w2 ⟨rfl, hb⟩; have HB2 := Lib.hid (HX0.out.next hb); have HA2 := Lib.hid (HA0.out.below hb); obtain ⟨_, z1, d0, d1, d2, d3, d4, d5, d6⟩ := HB2.out; clear hb)
          | (go_at_call 82; refine (HBR.out _).mono ?_; rintro e w2 ⟨rfl, hw2⟩; have hw3 := hw2.symm; clear hw2; subst hw3)
          | (go_at_call 88; refine (ins_we (c := ⟨43, fa, fb, imm⟩) (HA2.out.below (below_one _ _)) (by omega)).mono ?_; rintro e w3 ⟨rfl, G1, v1, v2, h1, h2⟩
             have HA3 := Lib.hid (We.next (HA2.out.below (below_one _ _)) h1 h2)
             have HK3 := Lib.hid ((WK.of_below G (bt HB2.out.b (below_one _ _))).trans h2)
             have HC3 := Lib.hid ((CellL.wk (b := w.heap.size) ⟨Nat.lt_of_lt_of_le z1 (below_one _ _).size, keep_cell (below_one _ _) z1 d0, keep_cell (below_one _ _) z1 d4, keep_cell (below_one _ _) z1 d5, keep_cell (below_one _ _) z1 d6⟩ h2 HGN.out : CellL w.heap.size w3 ⟨43, fa, fb, imm, nn, label, list⟩ (.slice vp n vc)))
             have HG3 := Lib.hid (not_next h2 (Nat.lt_of_lt_of_le z1 (below_one _ _).size) HGN.out)
             obtain ⟨y0, x0, x4, x5, x6⟩ := HC3.out
             clear h1 h2)
          | (go_at_call 90; refine (label_we 2 label HA3.out (by simp; omega) hlab).mono ?_; rintro e w4 hp; have HPP := Lib.hid (PutPost.chain HK3.out hp); clear hp; obtain ⟨rfl, _⟩ := HPP.out))
        go_end0
        exact put_app HPP.out
    rw [if_neg h2, if_neg h4]
    by_cases h42 : op = 42
    · rw [if_pos h42]
      have hlist := hlist0 (by unfold leadB; rw [hbr, h42]; rfl)
      have hlen := hlen0 (by unfold leadB; rw [hbr, h42]; rfl)
      have HLI := Lib.hid hlist
      subst h42
      clear hlab0 hlist0 hlen0 hbr ho h2 h4 hlist
      generalize hn : list.length = n at *
      have HN := Lib.hid hn
      clear hn
      have i0 : (0 : Int) ≤ n := by omega
      have i1 : (n : Int) ≤ 400 := by omega
      have i2 : IntKind.u32.wrap (n : Int) = n := by rw [IntKind.wrap_u32]; omega
      have i3 : (n : Int) % 4294967296 = n := by omega
      go_enter Tryz.func53, Tryz.ntmps53
      go_wp2_with (first
        | (go_at_call 86; refine (HCO.out _).mono ?_; rintro e w2 ⟨rfl, hb⟩; have HB2 := Lib.hid (HX0.out.next hb); have HA2 := Lib.hid (HA0.out.below hb); obtain ⟨_, z1, d0, d1, d2, d3, d4, d5, d6⟩ := HB2.out; clear hb)
        | (go_at_call 82; refine (HBR.out _).mono ?_; rintro e w2 ⟨rfl, hw2⟩; have hw3 := hw2.symm; clear hw2; subst hw3)
        | (go_at_call 88; refine (ins_we (c := ⟨42, fa, fb, imm⟩) (HA2.out.below (below_one _ _)) (by omega)).mono ?_; rintro e w3 ⟨rfl, G1, v1, v2, h1, h2⟩
           have HA3 := Lib.hid (We.next (HA2.out.below (below_one _ _)) h1 h2)
           have HK3 := Lib.hid ((WK.of_below G (bt HB2.out.b (below_one _ _))).trans h2)
           have HC3 := Lib.hid ((CellL.wk (b := w.heap.size) ⟨Nat.lt_of_lt_of_le z1 (below_one _ _).size, keep_cell (below_one _ _) z1 d0, keep_cell (below_one _ _) z1 d4, keep_cell (below_one _ _) z1 d5, keep_cell (below_one _ _) z1 d6⟩ h2 HGN.out : CellL w.heap.size w3 ⟨42, fa, fb, imm, nn, label, list⟩ (.slice vp n vc)))
           have HG3 := Lib.hid (not_next h2 (Nat.lt_of_lt_of_le z1 (below_one _ _).size) HGN.out)
           obtain ⟨y0, x0, x4, x5, x6⟩ := HC3.out
           clear h1 h2)
        | (go_at_call 89; refine (put_we 3 n HA3.out (by simp; omega)).mono ?_; rintro e w4 ⟨rfl, G2, u1, u2, h1, h2⟩
           have HA4 := Lib.hid (We.next HA3.out h1 h2)
           have HK4 := Lib.hid (HK3.out.trans h2)
           have HC4 := Lib.hid (HC3.out.wk h2 HG3.out)
           obtain ⟨s0, t0, t4, t5, t6⟩ := HC4.out
           clear h1 h2))
      go_loopw [49] (fun i wr => ∃ k : Nat, k ≤ n ∧ i = .int .i64 k ∧ ∃ G3 v3 v4, Hid (We wr l f Z bm sb N bw G3 v3 v4 (ws ++ [((encP ⟨42, fa, fb, imm⟩).1, 1)] ++ [((n : Int), 3)] ++ (list.take k).map (fun k => (placeL l f k, 3)))) ∧ Hid (WK w wr G G3)) (fun i _ => n - (intOf i).toNat)
      case atStart => exact ⟨0, Nat.zero_le _, rfl, G2, u1, u2, by rw [List.take_zero, List.map_nil, List.append_nil]; exact HA4, HK4⟩
      case round =>
        obtain ⟨k, hk, rfl, G3, v3, v4, HA5, HK5⟩ := hrel
        have hbw := HBZ.out wr G3 HK5.out
        by_cases hlt : k < n
        · obtain ⟨b1, o1, g, rfl, hg, hgl1, hge, hc3, hc4⟩ := ints_pt HI.out (k := k) (by have := HN.out; omega)
          have hg1 := (hbw.cell (p := ⟨b1, o1 + k, none⟩) hgl1).trans hge
          have l1 : b1 < wr.heap.size := Nat.lt_of_lt_of_le hgl1 hbw.size
          have hlab := HLI.out g (List.mem_of_getElem? hg)
          have HGA := Lib.hid hg
          have j0 : (0 : Int) ≤ k := by omega
          have j1 : (k : Int) < n := by omega
          have j2 : (list.take k).length ≤ 400 := by rw [List.length_take]; omega
          clear hg hge hbw
          go_wp2_with (go_at_call 90; refine (label_we 3 g HA5.out (by simp; omega) hlab).mono ?_; rintro e w5 ⟨rfl, G4, u3, u4, h1, h2⟩; have HA6 := Lib.hid (We.next HA5.out h1 h2); have HK6 := Lib.hid (HK5.out.trans h2); clear h1 h2)
          go_roundw
          case rel => exact ⟨k + 1, by omega, by go_num, G4, u3, u4, by rw [List.take_add_one, HGA.out, Option.toList_some, List.map_append, ← List.append_assoc]; exact HA6, HK6⟩
          case measure => simp [intOf]; omega
        · have hkn : k = n := by omega
          subst hkn
          have j1 : ¬ ((k : Int) < (k : Int)) := by omega
          clear hbw
          go_wp2
          go_end0
          have h := HA5.out.wr
          rw [show list.take k = list by rw [← HN.out, List.take_length]] at h
          have h2 : PutPost Z bm sb N bw G (ws ++ ([((encP ⟨42, fa, fb, imm⟩).1, 1)] ++ ([((k : Int), 3)] ++ list.map (fun k => (placeL l f k, 3))))) w (.returned (.tuple #[])) wr := put_app (put_app ⟨rfl, G3, v3, v4, h, HK5.out⟩)
          exact h2
    rw [if_neg h42, List.append_nil]
    have g2 : (op == 2) = false := by simpa using h2
    have g41 : (op == 41) = false := by simp; omega
    have g43 : (op == 43) = false := by simp; omega
    have g42 : (op == 42) = false := by simpa using h42
    clear hlab0 hlist0 hlen0 hbr ho h2 h4 h42
    generalize hn : list.length = n at *
    clear hn
    go_enter Tryz.func53, Tryz.ntmps53
    go_wp2_with (first
      | (go_at_call 86; refine (HCO.out _).mono ?_; rintro e w2 ⟨rfl, hb⟩; have HB2 := Lib.hid (HX0.out.next hb); have HA2 := Lib.hid (HA0.out.below hb); obtain ⟨_, z1, d0, d1, d2, d3, d4, d5, d6⟩ := HB2.out; clear hb)
      | (go_at_call 82; refine (HBR.out _).mono ?_; rintro e w2 ⟨rfl, hw2⟩; have hw3 := hw2.symm; clear hw2; subst hw3)
      | (go_at_call 88; refine (ins_we (c := ⟨op, fa, fb, imm⟩) (HA2.out.below (below_one _ _)) (by omega)).mono ?_; rintro e w3 ⟨rfl, G1, v1, v2, h1, h2⟩
         have HA3 := Lib.hid (We.next (HA2.out.below (below_one _ _)) h1 h2)
         have HK3 := Lib.hid ((WK.of_below G (bt HB2.out.b (below_one _ _))).trans h2)
         have HC3 := Lib.hid ((CellL.wk (b := w.heap.size) ⟨Nat.lt_of_lt_of_le z1 (below_one _ _).size, keep_cell (below_one _ _) z1 d0, keep_cell (below_one _ _) z1 d4, keep_cell (below_one _ _) z1 d5, keep_cell (below_one _ _) z1 d6⟩ h2 HGN.out : CellL w.heap.size w3 ⟨op, fa, fb, imm, nn, label, list⟩ (.slice vp n vc)))
         have HG3 := Lib.hid (not_next h2 (Nat.lt_of_lt_of_le z1 (below_one _ _).size) HGN.out)
         obtain ⟨y0, x0, x4, x5, x6⟩ := HC3.out
         clear h1 h2))
    go_end0
    exact ⟨rfl, G1, v1, v2, HA3.out.wr, HK3.out⟩
end Go.Proofs.YthojmbljlehpbaaGreatDoor.Relax
namespace Go.Proofs.YthojmbljlehpbaaGreatDoor.Relax
open Go.RowKit Go.Proofs.YthojmbljlehpbaaGreatDoor.Enc Go.Proofs.YthojmbljlehpbaaGreatDoor.Graph

theorem fine_all {l : List PL} (h : firstErr (lineErr l) 0 l.length = none) : ∀ x ∈ l, Fine x := fun x hx => by
  obtain ⟨i, hi⟩ := List.mem_iff_getElem?.1 hx
  have hlt : i < l.length := (List.getElem?_eq_some_iff.1 hi).1
  have h1 := firstErr_none h i (Nat.zero_le _) (by omega)
  rw [lineErr_wrong hi] at h1
  unfold Fine
  by_cases h2 : wrongL x = 0
  · exact h2
  · rw [if_neg h2] at h1; exact absurd h1 h2
/-- Where the program stands behind all rounds. -/
structure Fin (l : List PL) (S : List Nat) (r : Nat → Int) (t : Nat) : Prop where
  tk : Taken l
  sz : l.length ≤ 60000
  rt : RT l S [] r t
theorem Fin.long {l : List PL} {S : List Nat} {r : Nat → Int} {t : Nat} (h : Fin l S r t) : longP l = (flagS l S, t + 1) := h.rt.done h.tk h.sz
theorem Fin.wd {l : List PL} {S : List Nat} {r : Nat → Int} {t : Nat} (h : Fin l S r t) {k : Nat} (hk : k < (partsP l).length) : wdR (partAt (partsP l) k) (r k) = wdS (partsP l) S k := by
  have hm := h.rt.rs.mem k
  rw [List.append_nil] at hm
  unfold wdR wdS
  cases hn : nearB (r k) with
  | true =>
    have : k ∉ S := fun hS => by rw [(hm.1 hS).2.2] at hn; cases hn
    rw [if_pos rfl, if_neg this]; omega
  | false =>
    rw [if_neg (by simp)]
    by_cases h0 : (partAt (partsP l) k).more = 0
    · rw [h0]; split <;> rfl
    · rw [if_pos (hm.2 ⟨hk, h0, hn⟩)]
theorem Fin.st {l : List PL} {S : List Nat} {r : Nat → Int} {t : Nat} (h : Fin l S r t) : ∀ k, k ≤ (partsP l).length → stR (partsP l) r k = stS (partsP l) S k
  | 0, _ => rfl
  | k + 1, hk => by
    show stR (partsP l) r k + _ = stS (partsP l) S k + _
    rw [h.st k (by omega), h.wd (by omega)]
theorem Fin.place {l : List PL} {S : List Nat} {r : Nat → Int} {t : Nat} (h : Fin l S r t) {i : Nat} (hi : i ≤ l.length) : (placeP l (longP l).1 i : Int) = stR (partsP l) r (partN l i) := by
  rw [h.long]
  have h2 : partN l i ≤ (partsP l).length := by
    unfold partsP; rw [parts_len]
    obtain ⟨d, hd⟩ := Nat.exists_eq_add_of_le hi
    rw [hd]; exact partN_mono l i d
  rw [h.st _ h2]
  exact place_part l S i hi
theorem Fin.total {l : List PL} {S : List Nat} {r : Nat → Int} {t : Nat} (h : Fin l S r t) : (placeP l (longP l).1 l.length : Int) = stR (partsP l) r (partsP l).length := by
  rw [h.place (Nat.le_refl _)]
  unfold partsP
  rw [parts_len]
theorem Fin.at_ {l : List PL} {S : List Nat} {r : Nat → Int} {t : Nat} (h : Fin l S r t) {lab : Int} (hs : (standsAt l lab l.length).isSome = true) : placeL l (stR (partsP l) r) lab = atP l (longP l).1 lab := by
  have hb := toP_bd l lab
  rw [h.long]
  show stR (partsP l) r (toP l lab).toNat = atP l (flagS l S) lab
  rw [at_part S hs, h.st _ (by omega)]
theorem Fin.mono {l : List PL} {S : List Nat} {r : Nat → Int} {t : Nat} (h : Fin l S r t) {k : Nat} (hk : k ≤ (partsP l).length) : 0 ≤ stR (partsP l) r k ∧ stR (partsP l) r k ≤ stR (partsP l) r (partsP l).length := by
  have hw := parts_wf h.tk h.sz
  have h1 := stR_bd hw r k hk
  refine ⟨h1.1, ?_⟩
  rw [h.st k hk, h.st _ (Nat.le_refl _)]
  obtain ⟨d, hd⟩ := Nat.exists_eq_add_of_le hk
  have := stS_ge hw S k d (by omega)
  rw [← hd] at this
  omega
theorem putP_congr {x : PL} {reach : Int} {a1 a2 : Int → Int} (h : ∀ k ∈ goalsP x, a1 k = a2 k) : putP x reach a1 = putP x reach a2 := by
  have hlead : brB x.op = true ∨ x.op = 41 ∨ x.op = 43 → a1 x.label = a2 x.label := fun hl => h x.label (by
    unfold goalsP
    rw [if_pos (by unfold leadB; rcases hl with h1 | h1 | h1 <;> simp [h1])]; simp)
  have hlist : x.op = 42 → x.list.map (fun k => (a1 k, (3 : Int))) = x.list.map (fun k => (a2 k, 3)) := fun ho => by
    apply List.map_congr_left
    intro k hk
    rw [h k (by unfold goalsP; rw [if_neg (by rw [ho]; decide)]; exact hk)]
  unfold putP
  by_cases hb : brB x.op = true
  · rw [if_pos hb, if_pos hb, hlead (.inl hb)]
  · rw [if_neg hb, if_neg hb]
    by_cases h4 : x.op = 41 ∨ x.op = 43
    · rw [if_pos h4, if_pos h4, hlead (.inr h4)]
    · rw [if_neg h4, if_neg h4]
      by_cases h42 : x.op = 42
      · rw [if_pos h42, if_pos h42, hlist h42]
      · rw [if_neg h42, if_neg h42]
/-- The words of the first so many parts, as the program writes them. -/
def partW (l : List PL) (f : Nat → Int) (r : Nat → Int) : Nat → List (Int × Int)
  | 0 => []
  | k + 1 => partW l f r k ++ putP (lineAt l (partAt (partsP l) k).line.toNat) (r k) (placeL l f)
theorem part_lineno (l : List PL) (i : Nat) : (partP l i).line = i := by unfold partP; (repeat' split) <;> rfl
theorem goals_stand {l : List PL} (h : Taken l) {i : Nat} (hi : i < l.length) : ∀ k ∈ goalsP (lineAt l i), (standsAt l k l.length).isSome = true := fun k hk => by
  unfold goalsP at hk
  split at hk
  · rename_i hl
    have : k = (lineAt l i).label := by simpa using hk
    subst this
    exact h.goes hi (by rw [lead_goes]; exact hl)
  · exact h.list hi hk
theorem Fin.words {l : List PL} {S : List Nat} {r : Nat → Int} {t : Nat} (h : Fin l S r t) : ∀ i, i ≤ l.length → partW l (stR (partsP l) r) r (partN l i) = wordsN l (longP l).1 i
  | 0, _ => rfl
  | i + 1, hi => by
    have ih := h.words i (by omega)
    show _ = wordsN l (longP l).1 i ++ madeP (lineAt l i) (longAt (longP l).1 i) (placeP l (longP l).1 i) (atP l (longP l).1)
    by_cases ho : (lineAt l i).op = 0
    · rw [partN_same ho, ih]
      unfold madeP
      rw [if_pos ho, List.append_nil]
    · rw [partN_one ho]
      have hp := part_of l (by omega : i < l.length) ho
      show partW l _ r (partN l i) ++ putP (lineAt l (partAt (partsP l) (partN l i)).line.toNat) (r (partN l i)) _ = _
      rw [ih, hp.1, part_lineno, Int.toNat_natCast]
      congr 1
      rw [putP_congr (a2 := atP l (longP l).1) (fun k hk => h.at_ (goals_stand h.tk (by omega) k hk))]
      refine (made_put (h.tk.may (by omega)) ho (fun hb => ?_)).symm
      have hm : (partAt (partsP l) (partN l i)).more ≠ 0 := by rw [hp.1]; exact (more_br l ho).2 hb
      have hmem := h.rt.rs.mem (partN l i)
      rw [List.append_nil] at hmem
      have hlong : longAt (longP l).1 i = decide (partN l i ∈ S) := by
        rw [h.long, flag_at, Bool.eq_iff_iff]
        simp only [decide_eq_true_eq]
        exact ⟨fun h => h.2.2, fun h => ⟨by omega, ho, h⟩⟩
      rw [hlong]
      by_cases hS : partN l i ∈ S
      · rw [(hmem.1 hS).2.2]; simp [hS]
      · have hnear : nearB (r (partN l i)) = true := by
          cases hq : nearB (r (partN l i)) with
          | true => rfl
          | false => exact absurd (hmem.2 ⟨hp.2, hm, hq⟩) hS
        refine ⟨by rw [hnear]; simp [hS], fun _ => ?_⟩
        rw [near_val h.rt.rs.ri hp.2 hm hnear, ← disp_part h.tk S (by omega) hb hS]
        show dispP l (flagS l S) i = _
        rw [h.long]; rfl
theorem Fin.len {l : List PL} {S : List Nat} {r : Nat → Int} {t : Nat} (h : Fin l S r t) {k : Nat} (hk : k ≤ (partsP l).length) : ((partW l (stR (partsP l) r) r k).length : Int) = stR (partsP l) r k := by
  have h2 : k ≤ partN l l.length := by unfold partsP at hk; rwa [parts_len] at hk
  rcases Nat.eq_or_lt_of_le h2 with h3 | h3
  · rw [h3, h.words _ (Nat.le_refl _), words_len, h.place (Nat.le_refl _)]
  · obtain ⟨i, h4, h5, h6⟩ := part_line l l.length k h3
    rw [← h6, h.words i (by omega), words_len, h.place (by omega)]
/-- What is answered where all is well. -/
theorem Fin.asm {l : List PL} {S : List Nat} {r : Nat → Int} {t : Nat} (h : Fin l S r t) (hr : (refusedP l).2 = 0) (hs : stR (partsP l) r (partsP l).length ≤ 65536) :
    asmP l = (⟨(partW l (stR (partsP l) r) r (partsP l).length).map (·.1), (partW l (stR (partsP l) r) r (partsP l).length).map (·.2), (List.range l.length).map fun i => stR (partsP l) r (partN l i), t + 1⟩, 0, 0) := by
  have ht := h.total
  have hw := h.words l.length (Nat.le_refl _)
  have hpn : (partsP l).length = partN l l.length := by unfold partsP; rw [parts_len]
  unfold asmP
  rw [if_pos hr, if_neg (by omega)]
  rw [← hw, ← hpn]
  refine Prod.ext ?_ rfl
  simp only [Asm.mk.injEq, true_and]
  refine ⟨List.map_congr_left fun i hi => h.place (by have := List.mem_range.1 hi; omega), ?_⟩
  rw [h.long]; simp
theorem Fin.big {l : List PL} {S : List Nat} {r : Nat → Int} {t : Nat} (h : Fin l S r t) (hr : (refusedP l).2 = 0) (hs : ¬ stR (partsP l) r (partsP l).length ≤ 65536) : asmP l = (noAsm, 0, 174) := by
  have ht := h.total
  unfold asmP
  rw [if_pos hr, if_pos (by omega)]
end Go.Proofs.YthojmbljlehpbaaGreatDoor.Relax
namespace Go.Proofs.YthojmbljlehpbaaGreatDoor.Relax
open Go.RowKit Go.Proofs.YthojmbljlehpbaaGreatDoor.Enc Go.Proofs.YthojmbljlehpbaaGreatDoor.Graph

theorem asm_empty (w : World) : AsmR w noAsm (.slice none 0 0) (.slice none 0 0) (.slice none 0 0) := ⟨.inl ⟨rfl, _, _, rfl⟩, .inl ⟨rfl, _, _, rfl⟩, .inl ⟨rfl, _, _, rfl⟩⟩
/-- Three rows of one's own. -/
structure OwnA (B : Nat) (w : World) (vw vk vp : Value) : Prop where
  words : ∃ n xs, w.ownsRow B 50 1 vw n xs
  kinds : ∃ n xs, w.ownsRow B 3 1 vk n xs
  places : ∃ n xs, w.ownsRow B 3 1 vp n xs
  apart : ∀ b, vk.ownBlock = some b → vp.ownBlock ≠ some b
def AsmPostO (l : List PL) (w : World) (e : Ending) (w' : World) : Prop :=
  ∃ a line er, asmP l = (a, line, er) ∧ ∃ vw vk vp, e = .returned (.tuple #[asmV a vw vk vp, .int .i64 line, .int .i64 er]) ∧ AsmR w' a vw vk vp ∧ Below w.heap.size w w' ∧ OwnA w.heap.size w' vw vk vp
theorem own_none (B : Nat) (w : World) : OwnA B w (.slice none 0 0) (.slice none 0 0) (.slice none 0 0) :=
  ⟨⟨0, [], World.ownsRow_nil _ _ _ _⟩, ⟨0, [], World.ownsRow_nil _ _ _ _⟩, ⟨0, [], World.ownsRow_nil _ _ _ _⟩, fun b h => by cases h⟩
theorem rowi_own {w : World} {b n : Nat} {f : Nat → Int} (h : RowI w b n f) (hm : n ≤ 60000) : ∃ m xs, w.ownsRow b 3 1 (.slice (some ⟨b, 0, none⟩) n n) m xs := by
  obtain ⟨c, h1, h2, _⟩ := h
  exact ⟨n, c.toList.take (n * 1), by simp [h2], .inr ⟨b, n, c, rfl, Nat.le_refl _, h1, Nat.le_refl _, by unfold maxLen; omega, by omega, rfl⟩⟩
theorem AsmPost.no {l : List PL} {w w' : World} {line er : Int} (h : asmP l = (noAsm, line, er)) (hb : Below w.heap.size w w') :
    AsmPostO l w (.returned (.tuple #[.agg #[.slice none 0 0, .slice none 0 0, .slice none 0 0, .int .i64 0], .int .i64 line, .int .i64 er])) w' :=
  ⟨noAsm, line, er, h, _, _, _, rfl, asm_empty w', hb, own_none _ _⟩
theorem ref_long {l : List PL} (h : 60000 < l.length) : asmP l = (noAsm, 0, 2) := by
  have : refusedP l = (0, 2) := by unfold refusedP; rw [if_pos h]
  unfold asmP; rw [this]; rfl
theorem lineErr_ne {l : List PL} {i : Nat} {er : Int} (h : firstErr (lineErr l) 0 l.length = some (i, er)) : er ≠ 0 := by
  have := firstErr_some h
  rw [this.2.2.1]; exact this.2.2.2
theorem ref_line {l : List PL} (h0 : l.length ≤ 60000) {i : Nat} {er : Int} (h : firstErr (lineErr l) 0 l.length = some (i, er)) : asmP l = (noAsm, (i : Int), er) := by
  have h1 : refusedP l = ((i : Int), er) := by unfold refusedP; rw [if_neg (by omega), h]
  unfold asmP; rw [h1, if_neg (by exact lineErr_ne h)]
theorem ref_lab {l : List PL} (h0 : l.length ≤ 60000) (h : firstErr (lineErr l) 0 l.length = none) {i : Nat} {er : Int} (h2 : firstErr (labErr l) 0 l.length = some (i, er)) (he : er = 173) : asmP l = (noAsm, (i : Int), 173) := by
  have h1 : refusedP l = ((i : Int), er) := by unfold refusedP; rw [if_neg (by omega), h]; simp only [h2]
  unfold asmP; rw [h1, if_neg (by simp [he]), he]
theorem ref_ok {l : List PL} (h0 : l.length ≤ 60000) (h : firstErr (lineErr l) 0 l.length = none) (h2 : firstErr (labErr l) 0 l.length = none) : (refusedP l).2 = 0 := by
  unfold refusedP; rw [if_neg (by omega), h]; simp only [h2]
/-- The rows that a writer leaves. -/
theorem ints_own {w : World} {B : Nat} {v : Value} {F : List Int} (h : w.ownsRow B 3 1 v F.length (F.map fun x => .int .i64 x)) : IntsR w v F := by
  rcases Nat.eq_zero_or_pos F.length with h0 | h0
  · obtain ⟨_, ⟨rfl, _⟩ | ⟨g, cap, cur, rfl, _⟩⟩ := h
    · exact .inl ⟨h0, _, _, rfl⟩
    · exact .inl ⟨h0, _, _, by rw [h0]⟩
  · obtain ⟨g, cap, rfl, _, h3, h4, h5, h6⟩ := row_at h h0
    refine .inr ⟨g, 0, cap, rfl, h0, ⟨h3, h4⟩, h5, fun i hi x hx => ?_⟩
    rw [Nat.zero_add, Nat.mul_one]
    exact h6 _ _ (by rw [List.getElem?_map, hx]; rfl)
theorem words_own {w : World} {B : Nat} {v : Value} {F : List Int} (h : w.ownsRow B 50 1 v F.length (F.map fun x => .int .u32 x)) : WordsR w v F := by
  rcases Nat.eq_zero_or_pos F.length with h0 | h0
  · obtain ⟨_, ⟨rfl, _⟩ | ⟨g, cap, cur, rfl, _⟩⟩ := h
    · exact .inl ⟨h0, _, _, rfl⟩
    · exact .inl ⟨h0, _, _, by rw [h0]⟩
  · obtain ⟨g, cap, rfl, _, h3, h4, h5, h6⟩ := row_at h h0
    refine .inr ⟨g, 0, cap, rfl, h0, ⟨h3, h4⟩, h5, fun i hi x hx => ?_⟩
    rw [Nat.zero_add, Nat.mul_one]
    exact h6 _ _ (by rw [List.getElem?_map, hx]; rfl)
theorem ints_row {w : World} {b n : Nat} {f : Nat → Int} (h : RowI w b n f) (hm : n ≤ 60000) : IntsR w (.slice (some ⟨b, 0, none⟩) n n) ((List.range n).map f) := by
  rcases Nat.eq_zero_or_pos n with h0 | h0
  · subst h0; exact .inl ⟨rfl, _, _, rfl⟩
  · refine .inr ⟨b, 0, n, by simp, by simpa using h0, by simp; omega, h.lt, fun i hi x hx => ?_⟩
    have hi2 : i < n := by simpa using hi
    rw [List.getElem?_map, List.getElem?_range hi2] at hx
    injection hx with hx
    subst hx
    rw [Nat.zero_add, Nat.mul_one]
    exact h.cell hi2
set_option maxHeartbeats 16000000 in
set_option maxRecDepth 100000 in
theorem assemble_own (l : List PL) (v : Value) (w : World) (hl : LinesR w v l) (hs : SmL l) (hF : FormsAt w) : Calls Tryz.prog 25 #[v] w (AsmPostO l w) := by
  obtain ⟨p, c, rfl⟩ := hl.form
  have HL := Lib.hid hl
  have HF := Lib.hid hF
  have HA := Lib.hid (below_one w (.cells #[.slice none 0 0, .slice none 0 0, .slice none 0 0, .int .i64 0] 46))
  by_cases h6 : l.length ≤ 60000
  case neg =>
    have HE := Lib.hid (ref_long (l := l) (by omega))
    have hsl := hs.1
    generalize hn : l.length = n at *
    have i1 : (60000 : Int) < n := by omega
    have i2 : decide ((n : Int) > 60000) = true := by simp; omega
    clear hl hF hs hn h6 HL
    go_enter Tryz.func25, Tryz.ntmps25
    go_wp2
    refine bodyPost_ret (v := .tuple #[.agg #[.slice none 0 0, .slice none 0 0, .slice none 0 0, .int .i64 0], .int .i64 0, .int .i64 2]) ?_ rfl (AsmPost.no HE.out ?_)
    · simp [results, Tryz.results25, go_sem]
    · first | exact HA.out | exact ((((HA.out.setCell (by simp) _).setCell (by simp) _).setCell (by simp) _).setCell (by simp) _)
  have hsl : (l.length : Int) ≤ 60000 := by omega
  cases hfe : firstErr (lineErr l) 0 l.length with
  | some q =>
    obtain ⟨i, er⟩ := q
    have HE := Lib.hid (ref_line h6 hfe)
    have hne := lineErr_ne hfe
    have HFL := Lib.hid (fun w hl hF => (findLabels_prog l p c w hl hs h6 hF).mono fun e w' (h : FLPost l w e w') => (show e = .returned (.tuple #[.map none, .int .i64 i, .int .i64 er]) ∧ Below w.heap.size w w' from by
      rcases h with ⟨i', er', h1, h2, h3⟩ | ⟨h1, _⟩
      · rw [hfe] at h1; injection h1 with h1; injection h1 with h1 h4; subst h1 h4; exact ⟨h2, h3⟩
      · rw [hfe] at h1; cases h1))
    have g1 : (er == 0) = false := by simpa using hne
    have g2 : (er != 0) = true := by simpa using hne
    generalize hn : l.length = n at *
    clear hl hF hs hn h6 hfe hne
    go_enter Tryz.func25, Tryz.ntmps25
    go_wp2_with (go_at_call 47; refine (HFL.out _ (HL.out.below HA.out) (HF.out.below HA.out)).mono ?_; rintro e w1 ⟨rfl, hb⟩
                 have hq : w1.heap[w.heap.size]? = some (.cells #[.slice none 0 0, .slice none 0 0, .slice none 0 0, .int .i64 0] 46 (0, 0)) := (hb.block _ (by simp)).trans (heap_alloc_new w _)
                 have HQ9 := Lib.hid hq
                 obtain ⟨⟨a10, a11, a12, a13⟩, b10, b11, b12, b13⟩ := four hq
                 have hlt1 := lt_of_block hq
                 have HB1 := Lib.hid (bt HA.out hb); clear hb)
    obtain ⟨⟨p0, p1, p2, p3⟩, _⟩ := four (set_row4 (.slice none 0 0) (.slice none 0 0) (.slice none 0 0) (.int .i64 0) HQ9.out).2
    refine bodyPost_ret (v := .tuple #[.agg #[.slice none 0 0, .slice none 0 0, .slice none 0 0, .int .i64 0], .int .i64 i, .int .i64 er]) ?_ rfl (AsmPost.no HE.out ?_)
    · simp [results, Tryz.results25, go_sem, p0, p1, p2, p3]
    · first | exact HB1.out | exact ((((HB1.out.setCell (by simp) _).setCell (by simp) _).setCell (by simp) _).setCell (by simp) _)

  | none =>
    have HFL := Lib.hid (fun w hl hF => (findLabels_prog l p c w hl hs h6 hF).mono fun e w' (h : FLPost l w e w') => (show ∃ bm, e = .returned (.tuple #[.map (some bm), .int .i64 0, .int .i64 0]) ∧ MapAt w' bm 60000 l l.length ∧ w.heap.size ≤ bm ∧ Below w.heap.size w w' from by
      rcases h with ⟨i', er', h1, _⟩ | ⟨_, h1⟩
      · rw [hfe] at h1; cases h1
      · exact h1))
    have hfine := fine_all hfe
    cases hla : firstErr (labErr l) 0 l.length with
    | some q =>
      obtain ⟨i, er⟩ := q
      have HAS := Lib.hid (fun bm w hl hM => (astray_prog l p c bm w hl h6 hM hfine).mono fun e w' (h : AstrayPost l w e w') => (show er = 173 ∧ e = .returned (.int .i64 i) ∧ Below w.heap.size w w' from by
        rcases h with ⟨i', er', h1, h2, h3, h4⟩ | ⟨h1, _⟩
        · rw [hla] at h1; injection h1 with h1; injection h1 with h1 h5; subst h1 h5; exact ⟨h2, h3, h4⟩
        · rw [hla] at h1; cases h1))
      have HE := Lib.hid (fun h => ref_lab h6 hfe hla h)
      have i0 : (0 : Int) ≤ i := by omega
      generalize hn : l.length = n at *
      clear hl hF hs hn h6 hfe hfine hla
      go_enter Tryz.func25, Tryz.ntmps25
      go_wp2_with (first
        | (go_at_call 47; refine (HFL.out _ (HL.out.below HA.out) (HF.out.below HA.out)).mono ?_; rintro e w1 ⟨bm, rfl, hm, hz, hb⟩
           have hq : w1.heap[w.heap.size]? = some (.cells #[.slice none 0 0, .slice none 0 0, .slice none 0 0, .int .i64 0] 46 (0, 0)) := (hb.block _ (by simp)).trans (heap_alloc_new w _)
           have HQ1 := Lib.hid hq
           have HM1 := Lib.hid hm
           have HB1 := Lib.hid (bt HA.out hb); clear hb hm hq)
        | (go_at_call 48; refine (HAS.out bm _ (HL.out.below HB1.out) HM1.out).mono ?_; rintro e w2 ⟨her, rfl, hb⟩
           have hq := (hb.block _ (lt_of_block HQ1.out)).trans HQ1.out
           have HQ9 := Lib.hid hq
           obtain ⟨⟨a20, a21, a22, a23⟩, b20, b21, b22, b23⟩ := four hq
           have hlt1 := lt_of_block hq
           have HER := Lib.hid her
           have HB2 := Lib.hid (bt HB1.out hb); clear hb her))
      obtain ⟨⟨p0, p1, p2, p3⟩, _⟩ := four (set_row4 (.slice none 0 0) (.slice none 0 0) (.slice none 0 0) (.int .i64 0) HQ9.out).2
      refine bodyPost_ret (v := .tuple #[.agg #[.slice none 0 0, .slice none 0 0, .slice none 0 0, .int .i64 0], .int .i64 i, .int .i64 173]) ?_ rfl (AsmPost.no (HE.out HER.out) ?_)
      · simp [results, Tryz.results25, go_sem, p0, p1, p2, p3]
      · first | exact HB2.out | exact ((((HB2.out.setCell (by simp) _).setCell (by simp) _).setCell (by simp) _).setCell (by simp) _)

    | none =>
      have HAS := Lib.hid (fun bm w hl hM => (astray_prog l p c bm w hl h6 hM hfine).mono fun e w' (h : AstrayPost l w e w') => (show e = .returned (.int .i64 (-1)) ∧ Below w.heap.size w w' from by
        rcases h with ⟨i', er', h1, _⟩ | ⟨_, h3, h4⟩
        · rw [hla] at h1; cases h1
        · exact ⟨h3, h4⟩))
      have hok := ref_ok h6 hfe hla
      have htk := taken_of hok
      have hwf := parts_wf htk h6
      have HPA := Lib.hid (fun bm w hl hM => partsOf_prog l p c bm w hl hs h6 hM hfine)
      have HSE := Lib.hid (fun p c B w hP hB => settle_prog l htk h6 p c B w hP hB)
      have HSO := Lib.hid (fun r p c B w hP => startsOf_prog (partsP l) r p c B w hwf hP)
      have HOK := Lib.hid hok
      have HTK := Lib.hid htk
      have HSZ := Lib.hid h6
      have HWF := Lib.hid hwf
      have HFI := Lib.hid hfine
      have hpn := hwf.size
      unfold PartsPost at HPA
      unfold SettlePost at HSE
      unfold StartsPost at HSO
      clear hl hF hs hfe hfine hla hok htk hwf
      generalize hnp : (partsP l).length = np at *
      generalize hn : l.length = n at *
      have HN := Lib.hid hn
      have HNP := Lib.hid hnp
      clear hn hnp
      have n0 : (0 : Int) ≤ np := by omega
      have n1 : (np : Int) < (np : Int) + 1 := by omega
      have n2 : (np : Int) ≤ 60000 := by omega
      have n3 : decide ((60000 : Int) < n) = false := by simp; omega
      go_enter Tryz.func25, Tryz.ntmps25
      go_upto_region 12 with (first
        | (go_at_call 47; refine (HFL.out _ (HL.out.below HA.out) (HF.out.below HA.out)).mono ?_; rintro e w1 ⟨bm, rfl, hm, hz, hb⟩
           have HQ1 := Lib.hid (show w1.heap[w.heap.size]? = some (.cells #[.slice none 0 0, .slice none 0 0, .slice none 0 0, .int .i64 0] 46 (0, 0)) from (hb.block _ (by simp)).trans (heap_alloc_new w _))
           have HM1 := Lib.hid hm
           have HML := Lib.hid hm.lt
           have HB1 := Lib.hid (bt HA.out hb); clear hb hm)
        | (go_at_call 48; refine (HAS.out bm _ (HL.out.below HB1.out) HM1.out).mono ?_; rintro e w2 ⟨rfl, hb⟩
           have HQ2 := Lib.hid ((hb.block _ (lt_of_block HQ1.out)).trans HQ1.out)
           have HM2 := Lib.hid (HM1.out.below hb)
           have hml2 := Nat.lt_of_lt_of_le HML.out hb.size
           have HB2 := Lib.hid (bt HB1.out hb); clear hb)
        | (go_at_call 49; refine (HPA.out bm _ (HL.out.below HB2.out) HM2.out).mono ?_; rintro e w3 ⟨v3, rfl, hp, hb⟩
           obtain ⟨pp, pc, rfl⟩ := hp.form
           have HQ3 := Lib.hid ((hb.block _ (lt_of_block HQ2.out)).trans HQ2.out)
           have HP3 := Lib.hid hp
           have HS3 := Lib.hid hb.size
           have HB3 := Lib.hid (bt HB2.out hb)
           have HM3 := Lib.hid (HM2.out.below hb)
           rw [HNP.out]
           clear hb hp)
        | (go_at_call 50; (with_reducible refine (HSE.out pp pc w2.heap.size _ (HNP.out ▸ HP3.out) HS3.out).mono ?_); rintro e w4 ⟨S, r, t, rfl, hrt, hp, hb⟩
           have HQ4 := Lib.hid ((hb.block _ (lt_of_block HQ2.out)).trans HQ3.out)
           have HRT := Lib.hid hrt
           have HP4 := Lib.hid hp
           have HB4 := Lib.hid (HB3.out.trans (hb.mono HB2.out.size))
           have HM4 := Lib.hid (show MapAt w4 bm 60000 l n from by
             obtain ⟨es, clock, h1, h2⟩ := HM3.out
             exact ⟨es, clock, (hb.block bm hml2).trans h1, h2⟩)
           have hml4 := Nat.lt_of_lt_of_le (Nat.lt_of_lt_of_le hml2 HS3.out) hb.size
           clear hb hp hrt)
        | (go_at_call 51; (with_reducible refine (HSO.out r pp pc w2.heap.size _ (HNP.out ▸ HP4.out)).mono ?_); rintro e w5 ⟨rfl, hr, hb⟩
           have HR5 := Lib.hid hr
           have hrl := hr.lt
           have HQ5 := Lib.hid ((hb.block _ (lt_of_block HQ4.out)).trans HQ4.out)
           have HP5 := Lib.hid (PartsR.below HP4.out hb)
           have HB5 := Lib.hid (bt HB4.out hb)
           have HM5 := Lib.hid (HM4.out.below hb)
           have hml5 := Nat.lt_of_lt_of_le hml4 hb.size
           have rc := hr.cell (i := np) (by omega)
           clear hb hr))
      have HFN := Lib.hid (Fin.mk HTK.out (HN.out ▸ HSZ.out) HRT.out)
      have hq5 := HQ5.out
      have HTM := Lib.hid (fun k hk => HFN.out.mono (k := k) hk)
      have hcast : ((np + 1 : Nat) : Int) = (np : Int) + 1 := by omega
      by_cases htt : stR (partsP l) r np ≤ 65536
      case neg =>
        have HE := Lib.hid (HFN.out.big HOK.out (by rw [HNP.out]; exact htt))
        generalize stR (partsP l) r np = tt at *
        have g1 : decide (tt > 65536) = true := by simp; omega
        have g2 : (65536 : Int) < tt := by omega
        obtain ⟨⟨a0, a1, a2, a3⟩, b0, b1, b2, b3⟩ := four hq5
        have hlt5 := lt_of_block hq5
        clear hq5 htt hcast
        go_wp2
        obtain ⟨⟨p0, p1, p2, p3⟩, _⟩ := four (set_row4 (.slice none 0 0) (.slice none 0 0) (.slice none 0 0) (.int .i64 0) HQ5.out).2
        refine bodyPost_ret (v := .tuple #[.agg #[.slice none 0 0, .slice none 0 0, .slice none 0 0, .int .i64 0], .int .i64 0, .int .i64 174]) ?_ rfl (AsmPost.no HE.out ?_)
        · simp [results, Tryz.results25, go_sem, p0, p1, p2, p3]
        · first | exact HB5.out | exact ((((HB5.out.setCell (by simp) _).setCell (by simp) _).setCell (by simp) _).setCell (by simp) _)

      have hE := HFN.out.asm HOK.out (by rw [HNP.out]; exact htt)
      rw [HNP.out, HN.out] at hE
      have HE := Lib.hid hE
      clear hE
      have HNW := Lib.hid (newWriter_prog bm w4.heap.size (np + 1) (stR (partsP l) r) w5 (by omega) (by omega) HR5.out (by rw [Nat.add_sub_cancel]; exact ⟨(HTM.out np (by rw [HNP.out]; exact Nat.le_refl _)).1, htt⟩))
      have HRD := Lib.hid (show ∀ k, k < np + 1 → 0 ≤ stR (partsP l) r k ∧ stR (partsP l) r k ≤ 65536 from fun k hk => by
        have := HTM.out k (by rw [HNP.out]; omega)
        rw [HNP.out] at this
        omega)
      have HLN := Lib.hid (show ∀ k, k ≤ np → (partW l (stR (partsP l) r) r k).length ≤ 65536 from fun k hk => by
        have h1 := HFN.out.len (k := k) (by rw [HNP.out]; exact hk)
        have h2 := HRD.out k (by omega)
        omega)
      unfold NewPost at HNW
      generalize htq : stR (partsP l) r np = tt at *
      have HTQ := Lib.hid htq
      clear htq
      have g1 : decide (tt > 65536) = false := by simp; omega
      have g2 : ¬ ((65536 : Int) < tt) := by omega
      clear hq5 hcast
      go_wp2_with (go_at_call 52; refine HNW.out.mono ?_; rintro e w6 ⟨bw, vw, vk, G, rfl, hwr, hb⟩
                   have HW6 := Lib.hid (We.mk (l := l) hwr (HF.out.below (bt HB5.out hb)) ⟨by rw [HN.out]; exact HM5.out.below hb, rowIs_below HR5.out hb, by rw [HNP.out]; omega, HRD.out⟩ hml5 hrl (HF.out.below HB5.out).pos hb.size)
                   have HB6 := Lib.hid hb
                   clear hwr hb)
      go_loopw [56] (fun i wr => ∃ k : Nat, k ≤ np ∧ i = .int .i64 k ∧ ∃ G v u, Hid (We wr l (stR (partsP l) r) w5.heap.size bm w4.heap.size (np + 1) bw G v u (partW l (stR (partsP l) r) r k)) ∧ Hid (Below w5.heap.size w5 wr)) (fun i _ => np - (intOf i).toNat)
      case atStart => exact ⟨0, Nat.zero_le _, rfl, G, vw, vk, HW6, HB6⟩
      case round =>
        obtain ⟨k, hk, rfl, G1, v1, u1, HWE, HBR⟩ := hrel
        by_cases hlt : k < np
        · obtain ⟨gp, rfl, hg1, hg2, hpc1, hpc2, c0, c1, c2, c3, c4, f4⟩ := (HP5.out.below HBR.out).at_ (k := k) (by rw [HNP.out]; exact hlt)
          have hkp : k < partN l l.length := by
            have h1 := HNP.out
            unfold partsP at h1
            rw [parts_len] at h1
            omega
          obtain ⟨i, hi1, hi2, hi3⟩ := part_line l l.length k hkp
          have hpo := part_of l hi1 hi2
          rw [hi3] at hpo
          have hline : (partAt (partsP l) k).line = i := by rw [hpo.1]; exact part_lineno l i
          obtain ⟨b, o, x, vl, rfl, hx, hbl, hr, hc1, hc2⟩ := lines_pt HL.out (k := i) hi1
          have hlx := lineAt_of hx
          have hwr : Below w.heap.size w wr := bt HB5.out HBR.out
          have hI := hr.list
          obtain ⟨vp, vc, rfl⟩ := hI.form
          replace hr := hr.below hbl hwr
          obtain ⟨x0, x1, x2, x3, x4, x5, x6, _⟩ := hr
          have l0 : b < wr.heap.size := Nat.lt_of_lt_of_le hbl hwr.size
          have HLP := Lib.hid (fun (W : World) hW hb0 => line_prog l (stR (partsP l) r) w5.heap.size bm w4.heap.size (np + 1) bw G1 v1 u1 (partW l (stR (partsP l) r) r k) x vp vc (r k) w W hW (by have := HLN.out k hk; omega) hb0 HB5.out.size hI (HFI.out x (List.mem_of_getElem? hx)) (by rw [← hlx]; exact hi2))
          have HPW := Lib.hid (show partW l (stR (partsP l) r) r (k + 1) = partW l (stR (partsP l) r) r k ++ putP x (r k) (placeL l (stR (partsP l) r)) from by
            show partW l _ r k ++ putP (lineAt l (partAt (partsP l) k).line.toNat) (r k) _ = _
            rw [hline, Int.toNat_natCast, hlx])
          have HWR := Lib.hid hwr
          rw [hline] at c0
          have hin : i < n := by rw [HN.out] at hi1; exact hi1
          generalize (partAt (partsP l) k).short = short at *
          generalize (partAt (partsP l) k).more = more at *
          generalize (partAt (partsP l) k).to = tt2 at *
          generalize hrk : r k = rk at *
          unfold lineV at HLP
          clear hkp hi1 hi2 hi3 hpo hline hx hlx hwr hI f4 hrk
          have i0 : (0 : Int) ≤ k := by omega
          have i1 : (k : Int) < np := by omega
          have i2 : (0 : Int) ≤ i := by omega
          have i3 : (i : Int) < n := by omega
          go_upto_region 18 with (fail)
          go_region_law (first
            | ((try go_simp); go_at_call 53; refine (HLP.out (World.drew _) (HWE.out.below (below_one _ _).drew) (bt HWR.out (below_one _ _).drew)).mono ?_; rintro e w7 hp; have HPP := Lib.hid (PutPost.after (below_one _ _).drew hp); clear hp; obtain ⟨rfl, G2, v2, u2, h1, h2⟩ := HPP.out; have HB2 := Lib.hid (h2.below (fun b hb => (HWE.out.wr.lt hb).1) HWE.out.zs); have HW2 := Lib.hid (We.next HWE.out h1 h2); clear h1 h2))
          all_goals
            go_wp2_with fail
            go_roundw
            case rel => exact ⟨k + 1, by omega, by go_num, G2, v2, u2, by rw [HPW.out]; exact HW2, Lib.hid (HBR.out.trans HB2.out)⟩
            case measure => simp [intOf]; omega
        · have hkn : k = np := by omega
          subst hkn
          have i1 : ¬ ((k : Int) < (k : Int)) := by omega
          have hwr : Below w.heap.size w wr := bt HB5.out HBR.out
          have hst := HWE.out.wr.st
          obtain ⟨pw, cw, hv1⟩ : ∃ p c, v1 = .slice p (partW l (stR (partsP l) r) r k).length c := by
            obtain ⟨_, ⟨rfl, h⟩ | ⟨g, cap, cur, rfl, _⟩⟩ := HWE.out.wr.words
            · exact ⟨none, 0, by rw [h]⟩
            · exact ⟨_, _, rfl⟩
          obtain ⟨pk, ck, hu1⟩ : ∃ p c, u1 = .slice p (partW l (stR (partsP l) r) r k).length c := by
            obtain ⟨_, ⟨rfl, h⟩ | ⟨g, cap, cur, rfl, _⟩⟩ := HWE.out.wr.kinds
            · exact ⟨none, 0, by rw [h]⟩
            · exact ⟨_, _, rfl⟩
          have hwlt : w.heap.size < w5.heap.size := lt_of_block HQ5.out
          have HQR := Lib.hid ((HBR.out.block w.heap.size hwlt).trans HQ5.out)
          have hbz := HWE.out.wr.z
          have HPL := Lib.hid (fun w hl hR => placesOf_prog l (stR (partsP l) r) p c w4.heap.size (k + 1) w hl (HN.out ▸ HSZ.out) hR (by rw [HNP.out]; omega))
          have HRW := HWE.out.reads.row
          have HLW := HL.out.below hwr
          unfold PlacesOfPost at HPL
          rw [HN.out] at HPL
          subst hv1 hu1
          obtain ⟨⟨_, _, d2, d3⟩, _⟩ := four hst
          have hlb := lt_of_block hst
          have hlw := lt_of_block HQR.out
          have HLWH := Lib.hid HLW
          have HRWH := Lib.hid HRW
          have HWRH := Lib.hid hwr
          have HTR := Lib.hid HE.out
          generalize hlen : (partW l (stR (partsP l) r) r k).length = pl at *
          clear hst HLW HRW hwr
          go_upto_region 20 with (fail)
          go_region_law (first
            | ((try go_simp); go_at_call 54; refine (HPL.out (World.drew _) (HLWH.out.below (Below.refl _ _).drew) HRWH.out).mono ?_; rintro e w7 ⟨rfl, hrow, hb⟩
               have HR7 := Lib.hid hrow
               have e2 := keep_cell hb hlb d2
               have e3 := keep_cell hb hlb d3
               have HQ7 := Lib.hid ((hb.block w.heap.size hlw).trans HQR.out)
               have hq7 := HQ7.out
               obtain ⟨⟨a0, a1, a2, a3⟩, b0, b1, b2, b3⟩ := four hq7
               have hl7 := lt_of_block hq7
               have HB7 := Lib.hid hb
               clear hb hrow hq7))
          all_goals
            go_wp2_with fail
            obtain ⟨HG, hb⟩ := set_row4 (.slice pw pl cw) (.slice pk pl ck) (.slice (some ⟨wr.heap.size, 0, none⟩) n n) (.int .i64 ((t : Int) + 1)) HQ7.out
            obtain ⟨⟨p0, p1, p2, p3⟩, _⟩ := four hb
            have hbk : ∀ b, b < wr.heap.size → b ≠ w.heap.size → (((((w7.setCell ⟨w.heap.size, 0, none⟩ (.slice pw pl cw)).setCell ⟨w.heap.size, 1, none⟩ (.slice pk pl ck)).setCell ⟨w.heap.size, 2, none⟩ (.slice (some ⟨wr.heap.size, 0, none⟩) n n)).setCell ⟨w.heap.size, 3, none⟩ (.int .i64 ((t : Int) + 1))).heap[b]? = wr.heap[b]?) := fun b hb1 hb2 =>
              (HG.block b (Nat.lt_of_lt_of_le hb1 HB7.out.size) (fun e => hb2 (Option.some.inj e))).trans (HB7.out.block b hb1)
            have hlen2 := hlen
            refine bodyPost_ret (v := .tuple #[.agg #[.slice pw pl cw, .slice pk pl ck, .slice (some ⟨wr.heap.size, 0, none⟩) n n, .int .i64 ((t : Int) + 1)], .int .i64 0, .int .i64 0]) ?_ rfl ⟨_, 0, 0, HTR.out, .slice pw pl cw, .slice pk pl ck, .slice (some ⟨wr.heap.size, 0, none⟩) n n, rfl, ⟨?_, ?_, ?_⟩, ?_, ?_⟩
            · simp [results, Tryz.results25, go_sem, p0, p1, p2, p3]
            · refine words_own (B := w5.heap.size) ?_
              rw [List.length_map, List.map_map]
              exact own_keep HWE.out.wr.words (fun b hb => hbk b (HWE.out.wr.words.lt b hb).2 (by have := (HWE.out.wr.words.lt b hb).1; omega))
            · refine ints_own (B := w5.heap.size) ?_
              rw [List.length_map, List.map_map]
              exact own_keep HWE.out.wr.kinds (fun b hb => hbk b (HWE.out.wr.kinds.lt b hb).2 (by have := (HWE.out.wr.kinds.lt b hb).1; omega))
            · exact ints_row (HR7.out.of_block (HG.block wr.heap.size HR7.out.lt (fun e => by have := Option.some.inj e; omega))) (by omega)
            · exact ((((HWRH.out.trans ((Below.refl _ _).drew.trans (HB7.out.mono HWRH.out.size))).setCell (p := ⟨w.heap.size, 0, none⟩) (Nat.le_refl _) _).setCell (p := ⟨w.heap.size, 1, none⟩) (Nat.le_refl _) _).setCell (p := ⟨w.heap.size, 2, none⟩) (Nat.le_refl _) _).setCell (p := ⟨w.heap.size, 3, none⟩) (Nat.le_refl _) _
            · have hsz : w.heap.size ≤ wr.heap.size := HWRH.out.size
              refine ⟨⟨_, _, own_mono (own_keep HWE.out.wr.words (fun b hb => hbk b (HWE.out.wr.words.lt b hb).2 (by have := (HWE.out.wr.words.lt b hb).1; omega))) (Nat.le_of_lt hwlt)⟩, ⟨_, _, own_mono (own_keep HWE.out.wr.kinds (fun b hb => hbk b (HWE.out.wr.kinds.lt b hb).2 (by have := (HWE.out.wr.kinds.lt b hb).1; omega))) (Nat.le_of_lt hwlt)⟩, ?_, fun b hb e => ?_⟩
              · obtain ⟨m, xs, hm⟩ := rowi_own (HR7.out.of_block (HG.block wr.heap.size HR7.out.lt (fun e => by have := Option.some.inj e; omega))) (by omega)
                exact ⟨m, xs, own_mono hm hsz⟩
              · have h1 := (HWE.out.wr.kinds.lt b hb).2
                injection e with e
                simp only at e
                omega
theorem assemble_prog (l : List PL) (v : Value) (w : World) (hl : LinesR w v l) (hs : SmL l) (hF : FormsAt w) : Calls Tryz.prog 25 #[v] w (AsmPost l w) :=
  (assemble_own l v w hl hs hF).mono fun _ _ ⟨a, line, er, h1, vw, vk, vp, h2, h3, h4, _⟩ => ⟨a, line, er, h1, vw, vk, vp, h2, h3, h4⟩
end Go.Proofs.YthojmbljlehpbaaGreatDoor.Relax
