/- The words of a line written. No condition but that writer, map, places and lists lie as they say. -/
import Derived.Test.YtmnhafncdblklaaDoorAw
namespace Go.Proofs.YtmnhafncdblklaaDoor.Relax
open Go.RowKit Go.Proofs.YtmnhafncdblklaaDoor.Enc Go.Proofs.YtmnhafncdblklaaDoor.Graph Go.Maps

theorem PutPost.below_chain {Z bm sb N bw : Nat} {G : Nat → Prop} {ws : List (Int × Int)} {w w2 : World} (hb : Below w.heap.size w w2) {e : Ending} {w' : World} (h : PutPost Z bm sb N bw G ws w2 e w') : PutPost Z bm sb N bw G ws w e w' := PutPost.after hb h
/-- A line's box behind a call on the writer. -/
theorem BoxL.wk {w wr w2 : World} {x : PL} {v : Value} {G G' : Nat → Prop} (h : BoxL w wr x v) (hk : WK wr w2 G G') (hg : ¬ G w.heap.size) (hb : Below w.heap.size w w2) : BoxL w w2 x v :=
  ⟨hb, Nat.lt_of_lt_of_le h.sz hk.size, hk.cell h.sz hg h.c0, hk.cell h.sz hg h.c1, hk.cell h.sz hg h.c2, hk.cell h.sz hg h.c3, hk.cell h.sz hg h.c4, hk.cell h.sz hg h.c5, hk.cell h.sz hg h.c6⟩
/-- .. the cells alone. -/
structure CellL (b : Nat) (wr : World) (x : PL) (v : Value) : Prop where
  sz : b < wr.heap.size
  c0 : wr.cell? ⟨b, 0, none⟩ = some (.int .i64 x.op)
  c4 : wr.cell? ⟨b, 4, none⟩ = some (.int .u32 x.n)
  c5 : wr.cell? ⟨b, 5, none⟩ = some (.int .i64 x.label)
  c6 : wr.cell? ⟨b, 6, none⟩ = some v
theorem CellL.wk {b : Nat} {wr w2 : World} {x : PL} {v : Value} {G G' : Nat → Prop} (h : CellL b wr x v) (hk : WK wr w2 G G') (hg : ¬ G b) : CellL b w2 x v :=
  ⟨Nat.lt_of_lt_of_le h.sz hk.size, hk.cell h.sz hg h.c0, hk.cell h.sz hg h.c4, hk.cell h.sz hg h.c5, hk.cell h.sz hg h.c6⟩
theorem put_br {x : PL} {reach : Int} {l : List PL} {f : Nat → Int} (h : brB x.op = true) : putP x reach (placeL l f) = brW l f x.op x.a x.b reach x.label := by
  unfold putP brW wordOf
  rw [if_pos h]
theorem put_plain {x : PL} {reach : Int} {l : List PL} {f : Nat → Int} (h : brB x.op = false) : putP x reach (placeL l f) = [((encP ⟨x.op, x.a, x.b, x.imm⟩).1, 1)] ++
    (if x.op = 2 then [(x.n, 2)] else if x.op = 41 ∨ x.op = 43 then [(placeL l f x.label, 2)] else if x.op = 42 then [((x.list.length : Int), 3)] ++ x.list.map (fun k => (placeL l f k, 3)) else []) := by
  unfold putP wordOf
  rw [if_neg (by rw [h]; simp)]; rfl
set_option maxHeartbeats 8000000 in
set_option maxRecDepth 100000 in
theorem line_prog (l : List PL) (f : Nat → Int) (Z bm sb N bw : Nat) (G : Nat → Prop) (vw vk : Value) (ws : List (Int × Int)) (x : PL) (vp : Option Addr) (vc : Nat) (reach : Int) (w0 w : World) (h : We w l f Z bm sb N bw G vw vk ws) (hl : ws.length ≤ 90000)
    (hb0 : Below w0.heap.size w0 w) (hz0 : w0.heap.size ≤ Z) (hI : IntsR w0 (.slice vp x.list.length vc) x.list) (hf : Fine x) (ho : x.op ≠ 0) :
    Calls Tryd.prog 33 #[.pointer (some ⟨bw, 0, none⟩), lineV x vp x.list.length vc, .int .i64 reach] w (PutPost Z bm sb N bw G (ws ++ putP x reach (placeL l f)) w) := by
  have hgo := fine_goals hf
  have hgl := goals_len hf
  obtain ⟨hm, ho1, ho2⟩ := fine_may hf
  have hgn := h.not_new (Nat.le_refl _)
  have HA0 := Lib.hid (h.below (below_one w (.cells #[.int .i64 x.op, .int .i64 x.a, .int .i64 x.b, .int .i64 x.imm, .int .u32 x.n, .int .i64 x.label, .slice vp x.list.length vc] 45)))
  have HX0 := Lib.hid (BoxL.start w 45 x (.slice vp x.list.length vc))
  have HCO := Lib.hid (fun w => codeOf_prog x vp x.list.length vc w)
  have HI := Lib.hid hI
  have HB0 := Lib.hid hb0
  have HGN := Lib.hid hgn
  have HBZ := Lib.hid (fun (wr : World) (G' : Nat → Prop) (hk : WK w wr G G') => hb0.trans ((hk.below (fun b hb => (h.wr.lt hb).1) h.zs).mono hz0))
  obtain ⟨br, hbr⟩ : ∃ b, brB x.op = b := ⟨_, rfl⟩
  have HBR := Lib.hid (fun w => hbr ▸ branches_prog x.op w)
  unfold cV codeOf at HCO
  unfold lineV at HCO ⊢
  simp only at HCO
  cases br
  case true =>
    have hlab : 0 ≤ x.label ∧ x.label ≤ 100000 := hgo x.label (by unfold goalsP leadB; rw [hbr]; simp)
    have hop : 30 ≤ x.op ∧ x.op ≤ 40 := by unfold brB at hbr; simpa using hbr
    rw [put_br hbr]
    have HBB := Lib.hid (fun (W : World) hW => branch_prog l f Z bm sb N bw G vw vk ws x.op x.a x.b x.imm x.label reach W hW (by omega) hlab hop)
    unfold cV at HBB
    simp only at HBB
    clear h hgo hgl hm ho1 ho2 hgn hf hI hb0 hbr hlab hop ho
    go_enter Tryd.func33, Tryd.ntmps33
    go_wp2_with (first
      | (go_at_call 51; refine (HCO.out _).mono ?_; rintro e w2 ⟨rfl, hb⟩; have HB2 := Lib.hid (HX0.out.next hb); have HA2 := Lib.hid (HA0.out.below hb); obtain ⟨_, z1, d0, d1, d2, d3, d4, d5, d6⟩ := HB2.out; clear hb)
      | (go_at_call 47; refine (HBR.out _).mono ?_; rintro e w2 ⟨rfl, hw2⟩; have hw3 := hw2.symm; clear hw2; subst hw3)
      | (go_at_call 52; refine (HBB.out _ (HA2.out.below (below_one _ _))).mono ?_; rintro e w3 hp; have HPP := Lib.hid (PutPost.after (bt HB2.out.b (below_one _ _)) hp); clear hp; obtain ⟨rfl, _⟩ := HPP.out))
    go_end0
    exact HPP.out
  case false =>
    rw [put_plain hbr]
    obtain ⟨op, fa, fb, imm, nn, label, list⟩ := x
    simp only at *
    have HE2 := Lib.hid hgo
    have hlab0 : leadB op = true → 0 ≤ label ∧ label ≤ 100000 := fun h => hgo label (by unfold goalsP; simp only; rw [if_pos h]; simp)
    have hlist0 : leadB op = false → ∀ k ∈ list, 0 ≤ k ∧ k ≤ 100000 := fun h k hk => hgo k (by unfold goalsP; simp only; rw [if_neg (by rw [h]; simp)]; exact hk)
    have hlen0 : leadB op = false → list.length ≤ 400 := fun h => by
      unfold goalsP at hgl
      simp only at hgl
      rw [if_neg (by rw [h]; simp)] at hgl; exact hgl
    clear h hm ho1 ho2 hgn hf hI hb0 hgo hgl HE2
    by_cases h2 : op = 2
    · rw [if_pos h2]
      subst h2
      clear hlab0 hlist0 hlen0 hbr ho
      generalize hn : list.length = n at *
      clear hn
      go_enter Tryd.func33, Tryd.ntmps33
      go_wp2_with (first
        | (go_at_call 51; refine (HCO.out _).mono ?_; rintro e w2 ⟨rfl, hb⟩; have HB2 := Lib.hid (HX0.out.next hb); have HA2 := Lib.hid (HA0.out.below hb); obtain ⟨_, z1, d0, d1, d2, d3, d4, d5, d6⟩ := HB2.out; clear hb)
        | (go_at_call 47; refine (HBR.out _).mono ?_; rintro e w2 ⟨rfl, hw2⟩; have hw3 := hw2.symm; clear hw2; subst hw3)
        | (go_at_call 53; refine (ins_we (c := ⟨2, fa, fb, imm⟩) (HA2.out.below (below_one _ _)) (by omega)).mono ?_; rintro e w3 ⟨rfl, G1, v1, v2, h1, h2⟩
           have HA3 := Lib.hid (We.next (HA2.out.below (below_one _ _)) h1 h2)
           have HK3 := Lib.hid ((WK.of_below G (bt HB2.out.b (below_one _ _))).trans h2)
           have HC3 := Lib.hid ((CellL.wk (b := w.heap.size) ⟨Nat.lt_of_lt_of_le z1 (below_one _ _).size, keep_cell (below_one _ _) z1 d0, keep_cell (below_one _ _) z1 d4, keep_cell (below_one _ _) z1 d5, keep_cell (below_one _ _) z1 d6⟩ h2 HGN.out : CellL w.heap.size w3 ⟨2, fa, fb, imm, nn, label, list⟩ (.slice vp n vc)))
           have HG3 := Lib.hid (not_next h2 (Nat.lt_of_lt_of_le z1 (below_one _ _).size) HGN.out)
           obtain ⟨y0, x0, x4, x5, x6⟩ := HC3.out
           clear h1 h2)
        | (go_at_call 54; refine (put_we 2 nn HA3.out (by simp; omega)).mono ?_; rintro e w4 hp; have HPP := Lib.hid (PutPost.chain HK3.out hp); clear hp; obtain ⟨rfl, _⟩ := HPP.out))
      go_end0
      exact put_app HPP.out
    by_cases h4 : op = 41 ∨ op = 43
    · rw [if_neg h2, if_pos h4]
      have hlab := hlab0 (by unfold leadB; rcases h4 with h | h <;> rw [h] <;> rfl)
      clear hlab0 hlist0 hlen0 hbr ho h2
      generalize hn : list.length = n at *
      clear hn
      rcases h4 with h4 | h4
      · subst h4
        go_enter Tryd.func33, Tryd.ntmps33
        go_wp2_with (first
          | (go_at_call 51; refine (HCO.out _).mono ?_; rintro e w2 ⟨rfl, hb⟩; have HB2 := Lib.hid (HX0.out.next hb); have HA2 := Lib.hid (HA0.out.below hb); obtain ⟨_, z1, d0, d1, d2, d3, d4, d5, d6⟩ := HB2.out; clear hb)
          | (go_at_call 47; refine (HBR.out _).mono ?_; rintro e w2 ⟨rfl, hw2⟩; have hw3 := hw2.symm; clear hw2; subst hw3)
          | (go_at_call 53; refine (ins_we (c := ⟨41, fa, fb, imm⟩) (HA2.out.below (below_one _ _)) (by omega)).mono ?_; rintro e w3 ⟨rfl, G1, v1, v2, h1, h2⟩
             have HA3 := Lib.hid (We.next (HA2.out.below (below_one _ _)) h1 h2)
             have HK3 := Lib.hid ((WK.of_below G (bt HB2.out.b (below_one _ _))).trans h2)
             have HC3 := Lib.hid ((CellL.wk (b := w.heap.size) ⟨Nat.lt_of_lt_of_le z1 (below_one _ _).size, keep_cell (below_one _ _) z1 d0, keep_cell (below_one _ _) z1 d4, keep_cell (below_one _ _) z1 d5, keep_cell (below_one _ _) z1 d6⟩ h2 HGN.out : CellL w.heap.size w3 ⟨41, fa, fb, imm, nn, label, list⟩ (.slice vp n vc)))
             have HG3 := Lib.hid (not_next h2 (Nat.lt_of_lt_of_le z1 (below_one _ _).size) HGN.out)
             obtain ⟨y0, x0, x4, x5, x6⟩ := HC3.out
             clear h1 h2)
          | (go_at_call 55; refine (label_we 2 label HA3.out (by simp; omega) hlab).mono ?_; rintro e w4 hp; have HPP := Lib.hid (PutPost.chain HK3.out hp); clear hp; obtain ⟨rfl, _⟩ := HPP.out))
        go_end0
        exact put_app HPP.out
      · subst h4
        go_enter Tryd.func33, Tryd.ntmps33
        go_wp2_with (first
          | (go_at_call 51; refine (HCO.out _).mono ?_; rintro e w2 ⟨rfl, hb⟩; have HB2 := Lib.hid (HX0.out.next hb); have HA2 := Lib.hid (HA0.out.below hb); obtain ⟨_, z1, d0, d1, d2, d3, d4, d5, d6⟩ := HB2.out; clear hb)
          | (go_at_call 47; refine (HBR.out _).mono ?_; rintro e w2 ⟨rfl, hw2⟩; have hw3 := hw2.symm; clear hw2; subst hw3)
          | (go_at_call 53; refine (ins_we (c := ⟨43, fa, fb, imm⟩) (HA2.out.below (below_one _ _)) (by omega)).mono ?_; rintro e w3 ⟨rfl, G1, v1, v2, h1, h2⟩
             have HA3 := Lib.hid (We.next (HA2.out.below (below_one _ _)) h1 h2)
             have HK3 := Lib.hid ((WK.of_below G (bt HB2.out.b (below_one _ _))).trans h2)
             have HC3 := Lib.hid ((CellL.wk (b := w.heap.size) ⟨Nat.lt_of_lt_of_le z1 (below_one _ _).size, keep_cell (below_one _ _) z1 d0, keep_cell (below_one _ _) z1 d4, keep_cell (below_one _ _) z1 d5, keep_cell (below_one _ _) z1 d6⟩ h2 HGN.out : CellL w.heap.size w3 ⟨43, fa, fb, imm, nn, label, list⟩ (.slice vp n vc)))
             have HG3 := Lib.hid (not_next h2 (Nat.lt_of_lt_of_le z1 (below_one _ _).size) HGN.out)
             obtain ⟨y0, x0, x4, x5, x6⟩ := HC3.out
             clear h1 h2)
          | (go_at_call 55; refine (label_we 2 label HA3.out (by simp; omega) hlab).mono ?_; rintro e w4 hp; have HPP := Lib.hid (PutPost.chain HK3.out hp); clear hp; obtain ⟨rfl, _⟩ := HPP.out))
        go_end0
        exact put_app HPP.out
    rw [if_neg h2, if_neg h4]
    by_cases h42 : op = 42
    · rw [if_pos h42]
      have hlist := hlist0 (by unfold leadB; rw [hbr, h42]; rfl)
      have hlen := hlen0 (by unfold leadB; rw [hbr, h42]; rfl)
      have HLI := Lib.hid hlist
      subst h42
      clear hlab0 hlist0 hlen0 hbr ho h2 h4 hlist
      generalize hn : list.length = n at *
      have HN := Lib.hid hn
      clear hn
      have i0 : (0 : Int) ≤ n := by omega
      have i1 : (n : Int) ≤ 400 := by omega
      have i2 : IntKind.u32.wrap (n : Int) = n := by rw [IntKind.wrap_u32]; omega
      have i3 : (n : Int) % 4294967296 = n := by omega
      go_enter Tryd.func33, Tryd.ntmps33
      go_wp2_with (first
        | (go_at_call 51; refine (HCO.out _).mono ?_; rintro e w2 ⟨rfl, hb⟩; have HB2 := Lib.hid (HX0.out.next hb); have HA2 := Lib.hid (HA0.out.below hb); obtain ⟨_, z1, d0, d1, d2, d3, d4, d5, d6⟩ := HB2.out; clear hb)
        | (go_at_call 47; refine (HBR.out _).mono ?_; rintro e w2 ⟨rfl, hw2⟩; have hw3 := hw2.symm; clear hw2; subst hw3)
        | (go_at_call 53; refine (ins_we (c := ⟨42, fa, fb, imm⟩) (HA2.out.below (below_one _ _)) (by omega)).mono ?_; rintro e w3 ⟨rfl, G1, v1, v2, h1, h2⟩
           have HA3 := Lib.hid (We.next (HA2.out.below (below_one _ _)) h1 h2)
           have HK3 := Lib.hid ((WK.of_below G (bt HB2.out.b (below_one _ _))).trans h2)
           have HC3 := Lib.hid ((CellL.wk (b := w.heap.size) ⟨Nat.lt_of_lt_of_le z1 (below_one _ _).size, keep_cell (below_one _ _) z1 d0, keep_cell (below_one _ _) z1 d4, keep_cell (below_one _ _) z1 d5, keep_cell (below_one _ _) z1 d6⟩ h2 HGN.out : CellL w.heap.size w3 ⟨42, fa, fb, imm, nn, label, list⟩ (.slice vp n vc)))
           have HG3 := Lib.hid (not_next h2 (Nat.lt_of_lt_of_le z1 (below_one _ _).size) HGN.out)
           obtain ⟨y0, x0, x4, x5, x6⟩ := HC3.out
           clear h1 h2)
        | (go_at_call 54; refine (put_we 3 n HA3.out (by simp; omega)).mono ?_; rintro e w4 ⟨rfl, G2, u1, u2, h1, h2⟩
           have HA4 := Lib.hid (We.next HA3.out h1 h2)
           have HK4 := Lib.hid (HK3.out.trans h2)
           have HC4 := Lib.hid (HC3.out.wk h2 HG3.out)
           obtain ⟨s0, t0, t4, t5, t6⟩ := HC4.out
           clear h1 h2))
      go_loopw [49] (fun i wr => ∃ k : Nat, k ≤ n ∧ i = .int .i64 k ∧ ∃ G3 v3 v4, Hid (We wr l f Z bm sb N bw G3 v3 v4 (ws ++ [((encP ⟨42, fa, fb, imm⟩).1, 1)] ++ [((n : Int), 3)] ++ (list.take k).map (fun k => (placeL l f k, 3)))) ∧ Hid (WK w wr G G3)) (fun i _ => n - (intOf i).toNat)
      case atStart => exact ⟨0, Nat.zero_le _, rfl, G2, u1, u2, by rw [List.take_zero, List.map_nil, List.append_nil]; exact HA4, HK4⟩
      case round =>
        obtain ⟨k, hk, rfl, G3, v3, v4, HA5, HK5⟩ := hrel
        have hbw := HBZ.out wr G3 HK5.out
        by_cases hlt : k < n
        · obtain ⟨b1, o1, g, rfl, hg, hgl1, hge, hc3, hc4⟩ := ints_pt HI.out (k := k) (by have := HN.out; omega)
          have hg1 := (hbw.cell (p := ⟨b1, o1 + k, none⟩) hgl1).trans hge
          have l1 : b1 < wr.heap.size := Nat.lt_of_lt_of_le hgl1 hbw.size
          have hlab := HLI.out g (List.mem_of_getElem? hg)
          have HGA := Lib.hid hg
          have j0 : (0 : Int) ≤ k := by omega
          have j1 : (k : Int) < n := by omega
          have j2 : (list.take k).length ≤ 400 := by rw [List.length_take]; omega
          clear hg hge hbw
          go_wp2_with (go_at_call 55; refine (label_we 3 g HA5.out (by simp; omega) hlab).mono ?_; rintro e w5 ⟨rfl, G4, u3, u4, h1, h2⟩; have HA6 := Lib.hid (We.next HA5.out h1 h2); have HK6 := Lib.hid (HK5.out.trans h2); clear h1 h2)
          go_roundw
          case rel => exact ⟨k + 1, by omega, by go_num, G4, u3, u4, by rw [List.take_add_one, HGA.out, Option.toList_some, List.map_append, ← List.append_assoc]; exact HA6, HK6⟩
          case measure => simp [intOf]; omega
        · have hkn : k = n := by omega
          subst hkn
          have j1 : ¬ ((k : Int) < (k : Int)) := by omega
          clear hbw
          go_wp2
          go_end0
          have h := HA5.out.wr
          rw [show list.take k = list by rw [← HN.out, List.take_length]] at h
          have h2 : PutPost Z bm sb N bw G (ws ++ ([((encP ⟨42, fa, fb, imm⟩).1, 1)] ++ ([((k : Int), 3)] ++ list.map (fun k => (placeL l f k, 3))))) w (.returned (.tuple #[])) wr := put_app (put_app ⟨rfl, G3, v3, v4, h, HK5.out⟩)
          exact h2
    rw [if_neg h42, List.append_nil]
    have g2 : (op == 2) = false := by simpa using h2
    have g41 : (op == 41) = false := by simp; omega
    have g43 : (op == 43) = false := by simp; omega
    have g42 : (op == 42) = false := by simpa using h42
    clear hlab0 hlist0 hlen0 hbr ho h2 h4 h42
    generalize hn : list.length = n at *
    clear hn
    go_enter Tryd.func33, Tryd.ntmps33
    go_wp2_with (first
      | (go_at_call 51; refine (HCO.out _).mono ?_; rintro e w2 ⟨rfl, hb⟩; have HB2 := Lib.hid (HX0.out.next hb); have HA2 := Lib.hid (HA0.out.below hb); obtain ⟨_, z1, d0, d1, d2, d3, d4, d5, d6⟩ := HB2.out; clear hb)
      | (go_at_call 47; refine (HBR.out _).mono ?_; rintro e w2 ⟨rfl, hw2⟩; have hw3 := hw2.symm; clear hw2; subst hw3)
      | (go_at_call 53; refine (ins_we (c := ⟨op, fa, fb, imm⟩) (HA2.out.below (below_one _ _)) (by omega)).mono ?_; rintro e w3 ⟨rfl, G1, v1, v2, h1, h2⟩
         have HA3 := Lib.hid (We.next (HA2.out.below (below_one _ _)) h1 h2)
         have HK3 := Lib.hid ((WK.of_below G (bt HB2.out.b (below_one _ _))).trans h2)
         have HC3 := Lib.hid ((CellL.wk (b := w.heap.size) ⟨Nat.lt_of_lt_of_le z1 (below_one _ _).size, keep_cell (below_one _ _) z1 d0, keep_cell (below_one _ _) z1 d4, keep_cell (below_one _ _) z1 d5, keep_cell (below_one _ _) z1 d6⟩ h2 HGN.out : CellL w.heap.size w3 ⟨op, fa, fb, imm, nn, label, list⟩ (.slice vp n vc)))
         have HG3 := Lib.hid (not_next h2 (Nat.lt_of_lt_of_le z1 (below_one _ _).size) HGN.out)
         obtain ⟨y0, x0, x4, x5, x6⟩ := HC3.out
         clear h1 h2))
    go_end0
    exact ⟨rfl, G1, v1, v2, HA3.out.wr, HK3.out⟩
end Go.Proofs.YtmnhafncdblklaaDoor.Relax
