/- The parts of a list: the program's own answer. -/
import Derived.Test.YtmnhafncdblklaaDoorAk
import Derived.RegionTactic
import Derived.BigRegion
namespace Go.Proofs.YtmnhafncdblklaaDoor.Relax
open Go.RowKit Go.Proofs.YtmnhafncdblklaaDoor.Enc Go.Proofs.YtmnhafncdblklaaDoor.Graph Go.Maps

theorem parts_step {l : List PL} {k : Nat} (ho : (lineAt l k).op ≠ 0) : partsN l (k + 1) = partsN l k ++ [partP l k] := by
  show partsN l k ++ (if (lineAt l k).op = 0 then [] else [partP l k]) = _
  rw [if_neg ho]
theorem parts_same {l : List PL} {k : Nat} (ho : (lineAt l k).op = 0) : partsN l (k + 1) = partsN l k := by
  show partsN l k ++ (if (lineAt l k).op = 0 then [] else [partP l k]) = _
  rw [if_pos ho, List.append_nil]
set_option maxRecDepth 100000 in
theorem look_run {w : World} {b m : Nat} {l : List PL} (hM : MapAt w b m l l.length) {lab : Int} (hl : 0 ≤ lab ∧ lab ≤ 100000) :
    (Instr.lookup 59 (.map (some b)) (.int .i64 lab) false).run Tryd.prog w = .ok (.int .i64 (toP l lab)) w := by
  obtain ⟨c, h1, h2, _⟩ := World.ownsMap.lookup_int hM law Tryd.underlying59 Tryd.underlying3 (zeroE _) (key_of hl)
  have h3 : DataW.lit (lit (match standsAt l lab l.length with | none => 0 | some t => (partN l t : Int))) = DataW.lit (H := Unit) (lit c) := (mapD_at l lab l.length).symm.trans h2
  injection h3 with h3
  injection h3 with _ h3
  rw [h1, ← h3]
  unfold toP
  cases standsAt l lab l.length <;> rfl
theorem part_news {w : World} {b : Nat} {q : PP} {r : Int} (h0 : w.cell? ⟨b, 0, none⟩ = some (.int .i64 q.line)) (h1 : w.cell? ⟨b, 1, none⟩ = some (.int .i64 q.short)) (h2 : w.cell? ⟨b, 2, none⟩ = some (.int .i64 q.more))
    (h3 : w.cell? ⟨b, 3, none⟩ = some (.int .i64 q.to)) (h4 : w.cell? ⟨b, 4, none⟩ = some (.int .i64 r)) : ∀ j u, (partCs q r)[j]? = some u → w.cell? ((⟨b, 0, none⟩ : Addr).add j) = some u := fun j u hu => by
  rw [Go.WideShapes.add_plain, Nat.zero_add]
  match j, hu with
  | 0, hu => injection hu with hu; subst hu; exact h0
  | 1, hu => injection hu with hu; subst hu; exact h1
  | 2, hu => injection hu with hu; subst hu; exact h2
  | 3, hu => injection hu with hu; subst hu; exact h3
  | 4, hu => injection hu with hu; subst hu; exact h4
  | j + 5, hu => simp [partCs] at hu
theorem PartsR.below {w w' : World} {B : Nat} {v : Value} {ps : List PP} {r : Nat → Int} (h : PartsR w B v ps r) (hb : Below w.heap.size w w') : PartsR w' B v ps r :=
  World.ownsRow.kept (row := none) h ⟨hb.os, hb.tape, hb.output, hb.size, fun i hi _ => hb.block i hi⟩ (by cases v.ownBlock <;> simp)
def PartsPost (l : List PL) (w : World) (e : Ending) (w' : World) : Prop := ∃ v, e = .returned v ∧ PartsR w' w.heap.size v (partsP l) (fun _ => 0) ∧ Below w.heap.size w w'
set_option maxHeartbeats 8000000 in
set_option maxRecDepth 100000 in
theorem partsOf_prog (l : List PL) (p : Option Addr) (c : Nat) (bm : Nat) (w : World) (hl : LinesR w (.slice p l.length c) l) (hs : SmL l) (h6 : l.length ≤ 60000) (hM : MapAt w bm 60000 l l.length) (hf : ∀ x ∈ l, Fine x) :
    Calls Tryd.prog 29 #[.slice p l.length c, .map (some bm)] w (PartsPost l w) := by
  obtain ⟨n, hn⟩ : ∃ n, n = l.length := ⟨_, rfl⟩
  rw [← hn] at h6 ⊢
  have HL := Lib.hid (hn ▸ hl : LinesR w (.slice p n c) l)
  have HN := Lib.hid hn
  have HM := Lib.hid hM
  have HF := Lib.hid hf
  have HS := Lib.hid hs
  clear hl hn hM hf hs
  have m0 : (n : Int) ≤ 60000 := by omega
  go_enter Tryd.func29, Tryd.ntmps29
  go_wp2
  go_loopw [5, 11] (fun v i wr => ∃ k : Nat, k ≤ n ∧ i = .int .i64 k ∧ Hid (PartsR wr w.heap.size v (partsN l k) (fun _ => 0)) ∧ Hid (Below w.heap.size w wr)) (fun _ i _ => n - (intOf i).toNat)
  case atStart => exact ⟨0, Nat.zero_le _, rfl, Lib.hid (World.ownsRow_nil _ _ _ _), Lib.hid (Below.refl _ _)⟩
  case round =>
    obtain ⟨k, hk, rfl, HP, HB⟩ := hrel
    by_cases hlt : k < n
    · obtain ⟨b, o, x, vl, rfl, hx, hbl, hr, hc1, hc2⟩ := lines_pt HL.out (k := k) (by have := HN.out; omega)
      replace hr := hr.below hbl HB.out
      obtain ⟨vp, vc, rfl⟩ := hr.list.form
      have hfx := HF.out x (List.mem_of_getElem? hx)
      have hll := HS.out.2 x (List.mem_of_getElem? hx)
      obtain ⟨c0, c1, c2, c3, c4, c5, c6, _⟩ := hr
      have l0 : b < wr.heap.size := Nat.lt_of_lt_of_le hbl HB.out.size
      have HX := Lib.hid (lineAt_of hx)
      have HFX := Lib.hid hfx
      have i0 : (0 : Int) ≤ k := by omega
      have i1 : (k : Int) < n := by omega
      clear hx hfx
      obtain ⟨op, fa, fb, imm, nn, label, list⟩ := x
      simp only at c0 c1 c2 c3 c4 c5 c6 hll
      generalize hm : list.length = m at *
      have HMM := Lib.hid hm
      have j0 : (m : Int) ≤ 100000000000000 := by omega
      clear hm
      have hpl := partN_le l k
      have hbs := HB.out.size
      by_cases h0 : op = 0
      · subst h0
        go_wp2
        go_roundw
        case rel => exact ⟨k + 1, by omega, by go_num, Lib.hid (by rw [parts_same (by rw [HX.out])]; exact HP.out.alloc _), Lib.hid (bt HB.out (below_one _ _))⟩
        case measure => simp [intOf]; omega
      have HBR := Lib.hid (fun w => branches_prog op w)
      have HO := Lib.hid (show (lineAt l k).op ≠ 0 by rw [HX.out]; exact h0)
      by_cases h40 : op = 40
      · subst h40
        have hlab : 0 ≤ label ∧ label ≤ 100000 := fine_goals HFX.out label (by unfold goalsP; rw [if_pos (by rfl)]; simp)
        have hr0 := look_run ((HM.out.below HB.out).below (((below_one wr (.cells #[.int .i64 40, .int .i64 fa, .int .i64 fb, .int .i64 imm, .int .u32 nn, .int .i64 label, .slice vp m vc] 45)).alloc (by simp) (.cells #[.int .i64 k, .int .i64 1, .int .i64 0, .int .i64 0, .int .i64 0] 70)).drew)) hlab
        have hr1 := look_run ((HM.out.below HB.out).below (((below_one wr (.cells #[.int .i64 40, .int .i64 fa, .int .i64 fb, .int .i64 imm, .int .u32 nn, .int .i64 label, .slice vp m vc] 45)).alloc (by simp) (.cells #[.int .i64 k, .int .i64 1, .int .i64 1, .int .i64 0, .int .i64 0] 70)).drew)) hlab
        have HEQ := Lib.hid (show partP l k = ⟨k, 1, 1, toP l label⟩ by unfold partP; rw [HX.out]; rfl)
        clear hlab h0
        go_upto_region 12 with (fail)
        go_region
        go_wp2_with (first
          | (go_at_call 47; refine (HBR.out _).mono ?_; rintro e w2 ⟨rfl, rfl⟩)
          | (at_builtin; refine wpList_append_part rfl (.tmp 65) (.tmp 67) rfl w.heap.size _ (partsN l k) ⟨k, 1, 1, toP l label⟩ rfl (HP.out.below (by first | exact ((below_one _ _).alloc (by simp) _).alloc (by simp <;> omega) _ | exact (((below_one _ _).alloc (by simp) _).alloc (by simp <;> omega) _).drew | exact (((below_one _ _).alloc (by simp) _).drew).alloc (by simp <;> omega) _)) ⟨wr.heap.size + 2, 0, none⟩ 1 rfl (part_news (by go_simp) (by go_simp) (by go_simp) (by go_simp) (by go_simp)) (by rw [parts_len]; omega) (by simp <;> omega) ?_; intro v' w' h1 h2 h3; have H1 := Lib.hid h1; have H2 := Lib.hid h2; clear h1 h2 h3))
        go_roundw
        case rel => exact ⟨k + 1, by omega, by go_num, Lib.hid (by rw [parts_step HO.out, HEQ.out]; exact H1.out), Lib.hid (Below.trans (bt HB.out (by first | exact ((below_one _ _).alloc (by simp) _).alloc (by simp <;> omega) _ | exact (((below_one _ _).alloc (by simp) _).alloc (by simp <;> omega) _).drew | exact (((below_one _ _).alloc (by simp) _).drew).alloc (by simp <;> omega) _)) H2.out)⟩
        case measure => simp [intOf]; omega
      by_cases h2 : op = 2
      · subst h2
        have HEQ := Lib.hid (show partP l k = ⟨k, 2, 0, 0⟩ by unfold partP; rw [HX.out]; rfl)
        clear h0 h40
        go_wp2_with (first
          | (go_at_call 47; refine (HBR.out _).mono ?_; rintro e w2 ⟨rfl, rfl⟩)
          | (at_builtin; refine wpList_append_part rfl (.tmp 65) (.tmp 67) rfl w.heap.size _ (partsN l k) ⟨k, 2, 0, 0⟩ rfl (HP.out.below (by first | exact ((below_one _ _).alloc (by simp) _).alloc (by simp <;> omega) _ | exact (((below_one _ _).alloc (by simp) _).alloc (by simp <;> omega) _).drew | exact (((below_one _ _).alloc (by simp) _).drew).alloc (by simp <;> omega) _)) ⟨wr.heap.size + 2, 0, none⟩ 1 rfl (part_news (by go_simp) (by go_simp) (by go_simp) (by go_simp) (by go_simp)) (by rw [parts_len]; omega) (by simp <;> omega) ?_; intro v' w' h1 h2 h3; have H1 := Lib.hid h1; have H2 := Lib.hid h2; clear h1 h2 h3))
        go_roundw
        case rel => exact ⟨k + 1, by omega, by go_num, Lib.hid (by rw [parts_step HO.out, HEQ.out]; exact H1.out), Lib.hid (Below.trans (bt HB.out (by first | exact ((below_one _ _).alloc (by simp) _).alloc (by simp <;> omega) _ | exact (((below_one _ _).alloc (by simp) _).alloc (by simp <;> omega) _).drew | exact (((below_one _ _).alloc (by simp) _).drew).alloc (by simp <;> omega) _)) H2.out)⟩
        case measure => simp [intOf]; omega
      by_cases h41 : op = 41
      · subst h41
        have HEQ := Lib.hid (show partP l k = ⟨k, 2, 0, 0⟩ by unfold partP; rw [HX.out]; rfl)
        clear h0 h40
        go_wp2_with (first
          | (go_at_call 47; refine (HBR.out _).mono ?_; rintro e w2 ⟨rfl, rfl⟩)
          | (at_builtin; refine wpList_append_part rfl (.tmp 65) (.tmp 67) rfl w.heap.size _ (partsN l k) ⟨k, 2, 0, 0⟩ rfl (HP.out.below (by first | exact ((below_one _ _).alloc (by simp) _).alloc (by simp <;> omega) _ | exact (((below_one _ _).alloc (by simp) _).alloc (by simp <;> omega) _).drew | exact (((below_one _ _).alloc (by simp) _).drew).alloc (by simp <;> omega) _)) ⟨wr.heap.size + 2, 0, none⟩ 1 rfl (part_news (by go_simp) (by go_simp) (by go_simp) (by go_simp) (by go_simp)) (by rw [parts_len]; omega) (by simp <;> omega) ?_; intro v' w' h1 h2 h3; have H1 := Lib.hid h1; have H2 := Lib.hid h2; clear h1 h2 h3))
        go_roundw
        case rel => exact ⟨k + 1, by omega, by go_num, Lib.hid (by rw [parts_step HO.out, HEQ.out]; exact H1.out), Lib.hid (Below.trans (bt HB.out (by first | exact ((below_one _ _).alloc (by simp) _).alloc (by simp <;> omega) _ | exact (((below_one _ _).alloc (by simp) _).alloc (by simp <;> omega) _).drew | exact (((below_one _ _).alloc (by simp) _).drew).alloc (by simp <;> omega) _)) H2.out)⟩
        case measure => simp [intOf]; omega
      by_cases h43 : op = 43
      · subst h43
        have HEQ := Lib.hid (show partP l k = ⟨k, 2, 0, 0⟩ by unfold partP; rw [HX.out]; rfl)
        clear h0 h40
        go_wp2_with (first
          | (go_at_call 47; refine (HBR.out _).mono ?_; rintro e w2 ⟨rfl, rfl⟩)
          | (at_builtin; refine wpList_append_part rfl (.tmp 65) (.tmp 67) rfl w.heap.size _ (partsN l k) ⟨k, 2, 0, 0⟩ rfl (HP.out.below (by first | exact ((below_one _ _).alloc (by simp) _).alloc (by simp <;> omega) _ | exact (((below_one _ _).alloc (by simp) _).alloc (by simp <;> omega) _).drew | exact (((below_one _ _).alloc (by simp) _).drew).alloc (by simp <;> omega) _)) ⟨wr.heap.size + 2, 0, none⟩ 1 rfl (part_news (by go_simp) (by go_simp) (by go_simp) (by go_simp) (by go_simp)) (by rw [parts_len]; omega) (by simp <;> omega) ?_; intro v' w' h1 h2 h3; have H1 := Lib.hid h1; have H2 := Lib.hid h2; clear h1 h2 h3))
        go_roundw
        case rel => exact ⟨k + 1, by omega, by go_num, Lib.hid (by rw [parts_step HO.out, HEQ.out]; exact H1.out), Lib.hid (Below.trans (bt HB.out (by first | exact ((below_one _ _).alloc (by simp) _).alloc (by simp <;> omega) _ | exact (((below_one _ _).alloc (by simp) _).alloc (by simp <;> omega) _).drew | exact (((below_one _ _).alloc (by simp) _).drew).alloc (by simp <;> omega) _)) H2.out)⟩
        case measure => simp [intOf]; omega
      by_cases h42 : op = 42
      · subst h42
        have HEQ := Lib.hid (show partP l k = ⟨k, 2 + m, 0, 0⟩ by unfold partP; rw [HX.out, ← HMM.out]; rfl)
        clear h0 h40
        go_wp2_with (first
          | (go_at_call 47; refine (HBR.out _).mono ?_; rintro e w2 ⟨rfl, rfl⟩)
          | (at_builtin; refine wpList_append_part rfl (.tmp 65) (.tmp 67) rfl w.heap.size _ (partsN l k) ⟨k, 2 + m, 0, 0⟩ rfl (HP.out.below (by first | exact ((below_one _ _).alloc (by simp) _).alloc (by simp <;> omega) _ | exact (((below_one _ _).alloc (by simp) _).alloc (by simp <;> omega) _).drew | exact (((below_one _ _).alloc (by simp) _).drew).alloc (by simp <;> omega) _)) ⟨wr.heap.size + 2, 0, none⟩ 1 rfl (part_news (by go_simp) (by go_simp) (by go_simp) (by go_simp) (by go_simp)) (by rw [parts_len]; omega) (by simp <;> omega) ?_; intro v' w' h1 h2 h3; have H1 := Lib.hid h1; have H2 := Lib.hid h2; clear h1 h2 h3))
        go_roundw
        case rel => exact ⟨k + 1, by omega, by go_num, Lib.hid (by rw [parts_step HO.out, HEQ.out]; exact H1.out), Lib.hid (Below.trans (bt HB.out (by first | exact ((below_one _ _).alloc (by simp) _).alloc (by simp <;> omega) _ | exact (((below_one _ _).alloc (by simp) _).alloc (by simp <;> omega) _).drew | exact (((below_one _ _).alloc (by simp) _).drew).alloc (by simp <;> omega) _)) H2.out)⟩
        case measure => simp [intOf]; omega
      have g0 : (op == 0) = false := by simpa using h0
      have g2 : (op == 2) = false := by simpa using h2
      have g41 : (op == 41) = false := by simpa using h41
      have g43 : (op == 43) = false := by simpa using h43
      have g42 : (op == 42) = false := by simpa using h42
      have g40 : (op == 40) = false := by simpa using h40
      obtain ⟨br, hbr⟩ : ∃ br, brB op = br := ⟨_, rfl⟩
      have HBE := Lib.hid (show branchOp op = br by rw [← hbr]; unfold branchOp brB; rw [Bool.eq_iff_iff]; simp; omega)
      have HBR2 := Lib.hid (fun w => hbr ▸ branches_prog op w)
      have q1 : ¬ (op = 2 ∨ op = 41 ∨ op = 43) := by omega
      cases br
      · have HEQ := Lib.hid (show partP l k = ⟨k, 1, 0, 0⟩ by unfold partP; rw [HX.out]; simp only; rw [if_neg q1, if_neg h42, if_neg h40, HBE.out]; rfl)
        clear h0 h2 h41 h42 h43 h40 q1 hbr
        go_wp2_with (first
          | (go_at_call 47; refine (HBR2.out _).mono ?_; rintro e w2 ⟨rfl, rfl⟩)
          | (at_builtin; refine wpList_append_part rfl (.tmp 65) (.tmp 67) rfl w.heap.size _ (partsN l k) ⟨k, 1, 0, 0⟩ rfl (HP.out.below (by first | exact ((below_one _ _).alloc (by simp) _).alloc (by simp <;> omega) _ | exact (((below_one _ _).alloc (by simp) _).alloc (by simp <;> omega) _).drew | exact (((below_one _ _).alloc (by simp) _).drew).alloc (by simp <;> omega) _)) ⟨wr.heap.size + 2, 0, none⟩ 1 rfl (part_news (by go_simp) (by go_simp) (by go_simp) (by go_simp) (by go_simp)) (by rw [parts_len]; omega) (by simp <;> omega) ?_; intro v' w' h1 h2 h3; have H1 := Lib.hid h1; have H2 := Lib.hid h2; clear h1 h2 h3))
        go_roundw
        case rel => exact ⟨k + 1, by omega, by go_num, Lib.hid (by rw [parts_step HO.out, HEQ.out]; exact H1.out), Lib.hid (Below.trans (bt HB.out (by first | exact ((below_one _ _).alloc (by simp) _).alloc (by simp <;> omega) _ | exact (((below_one _ _).alloc (by simp) _).alloc (by simp <;> omega) _).drew | exact (((below_one _ _).alloc (by simp) _).drew).alloc (by simp <;> omega) _)) H2.out)⟩
        case measure => simp [intOf]; omega
      · have HEQ := Lib.hid (show partP l k = ⟨k, 1, 2, toP l label⟩ by unfold partP; rw [HX.out]; simp only; rw [if_neg q1, if_neg h42, if_neg h40, HBE.out]; rfl)
        have hlab : 0 ≤ label ∧ label ≤ 100000 := fine_goals HFX.out label (by unfold goalsP leadB; simp only; rw [hbr]; simp)
        have hr0 := look_run ((HM.out.below HB.out).below (((below_one wr (.cells #[.int .i64 op, .int .i64 fa, .int .i64 fb, .int .i64 imm, .int .u32 nn, .int .i64 label, .slice vp m vc] 45)).alloc (by simp) (.cells #[.int .i64 k, .int .i64 1, .int .i64 0, .int .i64 0, .int .i64 0] 70)).drew)) hlab
        have hr1 := look_run ((HM.out.below HB.out).below (((below_one wr (.cells #[.int .i64 op, .int .i64 fa, .int .i64 fb, .int .i64 imm, .int .u32 nn, .int .i64 label, .slice vp m vc] 45)).alloc (by simp) (.cells #[.int .i64 k, .int .i64 1, .int .i64 2, .int .i64 0, .int .i64 0] 70)).drew)) hlab
        clear hlab h0 h2 h41 h42 h43 h40 q1 hbr
        go_upto_region 14 with (go_at_call 47; refine (HBR2.out _).mono ?_; rintro e w2 ⟨rfl, rfl⟩)
        go_region
        go_wp2_with (first
          | (go_at_call 47; refine (HBR2.out _).mono ?_; rintro e w2 ⟨rfl, rfl⟩)
          | (at_builtin; refine wpList_append_part rfl (.tmp 65) (.tmp 67) rfl w.heap.size _ (partsN l k) ⟨k, 1, 2, toP l label⟩ rfl (HP.out.below (by first | exact ((below_one _ _).alloc (by simp) _).alloc (by simp <;> omega) _ | exact (((below_one _ _).alloc (by simp) _).alloc (by simp <;> omega) _).drew | exact (((below_one _ _).alloc (by simp) _).drew).alloc (by simp <;> omega) _)) ⟨wr.heap.size + 2, 0, none⟩ 1 rfl (part_news (by go_simp) (by go_simp) (by go_simp) (by go_simp) (by go_simp)) (by rw [parts_len]; omega) (by simp <;> omega) ?_; intro v' w' h1 h2 h3; have H1 := Lib.hid h1; have H2 := Lib.hid h2; clear h1 h2 h3))
        go_roundw
        case rel => exact ⟨k + 1, by omega, by go_num, Lib.hid (by rw [parts_step HO.out, HEQ.out]; exact H1.out), Lib.hid (Below.trans (bt HB.out (by first | exact ((below_one _ _).alloc (by simp) _).alloc (by simp <;> omega) _ | exact (((below_one _ _).alloc (by simp) _).alloc (by simp <;> omega) _).drew | exact (((below_one _ _).alloc (by simp) _).drew).alloc (by simp <;> omega) _)) H2.out)⟩
        case measure => simp [intOf]; omega
    · have hkn : k = n := by omega
      subst hkn
      have i1 : ¬ ((k : Int) < (k : Int)) := by omega
      go_wp2
      go_ret
      exact ⟨_, rfl, by unfold partsP; rw [← HN.out]; exact HP.out, HB.out⟩
end Go.Proofs.YtmnhafncdblklaaDoor.Relax
