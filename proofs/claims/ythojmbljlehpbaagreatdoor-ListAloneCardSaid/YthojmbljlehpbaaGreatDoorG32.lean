/- Bytes and runes of a text; a rune is taken. No condition but sizes. -/
import Derived.Test.YthojmbljlehpbaaGreatDoorG31
import Derived.Laws.RangeAny
namespace Go.Proofs.YthojmbljlehpbaaGreatDoor.Lists
open Go.RowKit Go.Proofs.YthojmbljlehpbaaGreatDoor.Relax Go.Proofs.YthojmbljlehpbaaGreatDoor.Graph
open Go.Lib hiding intOf
open Go.Proofs.YthojmbljlehpbaaGreatDoor.Enc hiding below_one bt ret_bool

theorem get_list (s : List UInt8) (i : Nat) (h : i < s.length) : (⟨s.toArray⟩ : ByteArray).get! i = s[i] := by
  show s.toArray[i]! = _
  rw [getElem!_pos s.toArray i (by simpa using h)]
  simp
theorem size_list (s : List UInt8) : (⟨s.toArray⟩ : ByteArray).size = s.length := by show s.toArray.size = _; simp
/-- A rune that is no ASCII: all its bytes are none. -/
theorem decode_wide (s : ByteArray) (i : Nat) (hi : i < s.size) (h8 : ¬ (s.get! (i + 0)).toNat < 128) :
    128 ≤ (Utf8.decode s i).1 ∧ 1 ≤ (Utf8.decode s i).2 ∧ ∀ k, k < (Utf8.decode s i).2 → i + k < s.size ∧ 128 ≤ (s.get! (i + k)).toNat := by
  have base : ∀ c, 128 ≤ c → 128 ≤ ((c, 1) : Nat × Nat).1 ∧ 1 ≤ ((c, 1) : Nat × Nat).2 ∧ ∀ k, k < ((c, 1) : Nat × Nat).2 → i + k < s.size ∧ 128 ≤ (s.get! (i + k)).toNat := fun c hc =>
    ⟨hc, Nat.le_refl _, fun k hk => by
      obtain rfl : k = 0 := by simp only at hk; omega
      exact ⟨hi, by omega⟩⟩
  have cn : ∀ k, (decide (i + k < s.size) && (s.get! (i + k)).toNat / 64 == 2) = true → i + k < s.size ∧ 128 ≤ (s.get! (i + k)).toNat := fun k hk => by
    simp only [Bool.and_eq_true, decide_eq_true_eq, beq_iff_eq] at hk
    exact ⟨hk.1, by omega⟩
  have h0 : i + 0 < s.size ∧ 128 ≤ (s.get! (i + 0)).toNat := ⟨hi, by omega⟩
  unfold Utf8.decode
  simp only [h8, if_false]
  split
  · rename_i h1
    rw [Bool.and_eq_true] at h1
    have c1 := cn 1 h1.2
    split
    · exact ⟨by assumption, by simp, fun k hk => by
        simp only at hk
        rcases (show k = 0 ∨ k = 1 by omega) with rfl | rfl
        · exact h0
        · exact c1⟩
    · exact base _ (by decide)
  · split
    · rename_i h1
      rw [Bool.and_eq_true, Bool.and_eq_true] at h1
      have c1 := cn 1 h1.1.2
      have c2 := cn 2 h1.2
      split
      · rename_i h2
        rw [Bool.and_eq_true, decide_eq_true_eq] at h2
        refine ⟨by have := h2.1; simp only; omega, by simp, fun k hk => ?_⟩
        simp only at hk
        rcases (show k = 0 ∨ k = 1 ∨ k = 2 by omega) with rfl | rfl | rfl
        · exact h0
        · exact c1
        · exact c2
      · exact base _ (by decide)
    · split
      · rename_i h1
        rw [Bool.and_eq_true, Bool.and_eq_true, Bool.and_eq_true] at h1
        have c1 := cn 1 h1.1.1.2
        have c2 := cn 2 h1.1.2
        have c3 := cn 3 h1.2
        split
        · rename_i h2
          rw [Bool.and_eq_true, decide_eq_true_eq] at h2
          refine ⟨by have := h2.1; simp only; omega, by simp, fun k hk => ?_⟩
          simp only at hk
          rcases (show k = 0 ∨ k = 1 ∨ k = 2 ∨ k = 3 by omega) with rfl | rfl | rfl | rfl
          · exact h0
          · exact c1
          · exact c2
          · exact c3
        · exact base _ (by decide)
      · exact base _ (by decide)
/-- A byte of a word. -/
def othB (b : UInt8) : Prop := b ≠ 10 ∧ b ≠ 59 ∧ b ≠ 32 ∧ b ≠ 9
theorem take_oth {r : Rd} {b : UInt8} (h : othB b) : takeB r b = otherB r b := by
  unfold takeB
  rw [if_neg h.1, if_neg (fun e => e.elim h.2.1 (fun e => e.elim h.2.2.1 h.2.2.2))]
/-- Where a word begins, behind a byte more. -/
theorem beg_step {s : List UInt8} {at_ : Nat} {r : Rd} {bg : Int} {b : UInt8} (h : BegR s at_ r.cur bg) (hb : s[at_]? = some b) :
    ∃ c, otherB r b = { r with cur := c } ∧ BegR s (at_ + 1) c (if bg = -1 ∧ r.remark = false then (at_ : Int) else bg) := by
  have hlt := (List.getElem?_eq_some_iff.1 hb).1
  have hbe := (List.getElem?_eq_some_iff.1 hb).2
  have e1 : s.take (at_ + 1) = s.take at_ ++ [b] := by rw [List.take_add_one, hb]; rfl
  rcases h with ⟨hc, rfl⟩ | ⟨i, hi, hc, rfl⟩
  · rcases (show r.remark = true ∨ r.remark = false by cases r.remark <;> simp) with hr | hr
    · have eo : otherB r b = r := by
        unfold otherB
        rw [hc, hr]
        rfl
      exact ⟨r.cur, eo, .inl ⟨hc, by simp [hr]⟩⟩
    · refine ⟨some [b], by unfold otherB; rw [hc]; simp [hr], .inr ⟨at_, by omega, ?_, by simp [hr]⟩⟩
      rw [e1, List.drop_append_of_le_length (by rw [List.length_take]; omega), List.drop_of_length_le (by rw [List.length_take]; omega)]
      rfl
  · refine ⟨some ((s.take at_).drop i ++ [b]), by unfold otherB; rw [hc], .inr ⟨i, by omega, ?_, ?_⟩⟩
    · rw [e1, List.drop_append_of_le_length (by rw [List.length_take]; omega)]
    · rw [if_neg (fun e => by omega)]
/-- Bytes of one rune, all of a word. -/
theorem beg_run {s : List UInt8} {at_ : Nat} {r : Rd} {bg : Int} (h : BegR s at_ r.cur bg) (hw : r.wrong = false) : ∀ k, (∀ j, j < k + 1 → ∃ b, s[at_ + j]? = some b ∧ othB b) →
    ∃ c, readR ((s.drop at_).take (k + 1)) r = { r with cur := c } ∧ BegR s (at_ + (k + 1)) c (if bg = -1 ∧ r.remark = false then (at_ : Int) else bg) := by
  intro k
  induction k with
  | zero =>
    intro hj
    obtain ⟨b, h1, h2⟩ := hj 0 (by omega)
    obtain ⟨c, h3, h4⟩ := beg_step h h1
    refine ⟨c, ?_, h4⟩
    have e : (s.drop at_).take 1 = [b] := by
      rw [List.take_one, List.head?_drop]
      rw [Nat.add_zero] at h1
      rw [h1]; rfl
    rw [e, read_cons, read_nil, step_of hw, take_oth h2, h3]
  | succ k ih =>
    intro hj
    obtain ⟨c, h1, h2⟩ := ih (fun j hj2 => hj j (by omega))
    obtain ⟨b, h3, h4⟩ := hj (k + 1) (by omega)
    have h2' : BegR s (at_ + (k + 1)) ({ r with cur := c } : Rd).cur (if bg = -1 ∧ r.remark = false then (at_ : Int) else bg) := h2
    obtain ⟨c2, h5, h6⟩ := beg_step h2' h3
    refine ⟨c2, ?_, ?_⟩
    · have e : (s.drop at_).take (k + 1 + 1) = (s.drop at_).take (k + 1) ++ [b] := by
        rw [List.take_add_one (i := k + 1), List.getElem?_drop, h3]; rfl
      rw [e, read_append, h1, read_cons, read_nil, step_of (by exact hw), take_oth h4, h5]
    · have e : (if (if bg = -1 ∧ r.remark = false then (at_ : Int) else bg) = -1 ∧ ({ r with cur := c } : Rd).remark = false then ((at_ + (k + 1) : Nat) : Int) else (if bg = -1 ∧ r.remark = false then (at_ : Int) else bg)) = (if bg = -1 ∧ r.remark = false then (at_ : Int) else bg) := by
        by_cases h0 : bg = -1 ∧ r.remark = false
        · rw [if_pos h0]
          exact if_neg (fun e => by omega)
        · rw [if_neg h0]
          exact if_neg h0
      rw [e] at h6
      exact h6
/-- What a reader's counts are, behind k bytes. -/
def CntR (k : Nat) (r : Rd) : Prop := r.words.length ≤ 403 ∧ r.number ≤ k ∧ r.count ≤ k ∧ r.lines.length ≤ r.count
theorem cnt_endW {k : Nat} {r : Rd} (h : CntR k r) : CntR k (endW r) := by
  unfold endW
  split
  · exact h
  · refine ⟨?_, h.2⟩
    show (if r.words.length ≤ 402 then _ else _ : List (Option Wd)).length ≤ 403
    split
    · rw [List.length_append]; simp only [List.length_singleton]; omega
    · exact h.1
theorem cnt_endL {k : Nat} {r : Rd} (h : CntR k r) : CntR (k + 1) (endL r) := by
  obtain ⟨h1, h2, h3, h4⟩ := h
  unfold endL
  split
  · exact ⟨by simp [nextL], by simp only [nextL]; omega, by simp only [nextL]; omega, h4⟩
  · split
    · exact ⟨h1, by simp only; omega, by simp only; omega, h4⟩
    · refine ⟨by simp [nextL], by simp only [nextL]; omega, by simp only [nextL]; omega, ?_⟩
      simp only [nextL]
      split
      · rw [List.length_append]; simp only [List.length_singleton]; omega
      · omega
theorem cnt_mono {k k' : Nat} {r : Rd} (h : CntR k r) (hk : k ≤ k') : CntR k' r := ⟨h.1, Nat.le_trans h.2.1 hk, Nat.le_trans h.2.2.1 hk, h.2.2.2⟩
end Go.Proofs.YthojmbljlehpbaaGreatDoor.Lists
namespace Go.Proofs.YthojmbljlehpbaaGreatDoor.Lists
open Go.RowKit Go.Proofs.YthojmbljlehpbaaGreatDoor.Relax Go.Proofs.YthojmbljlehpbaaGreatDoor.Graph
open Go.Lib hiding intOf
open Go.Proofs.YthojmbljlehpbaaGreatDoor.Enc hiding below_one bt ret_bool

theorem endW_remark (r : Rd) : (endW r).remark = r.remark := by unfold endW; cases r.cur <;> rfl
variable [ItP]
set_option maxHeartbeats 16000000 in
set_option maxRecDepth 100000 in
theorem take_other (B rb ob at_ : Nat) (c bg : Int) (s : List UInt8) (r : Rd) (vw vl : Value) (w : World) (h : RdR B rb ob s bg r vw vl w) (hbg : BegR s at_ r.cur bg) (c1 : ¬ c = 10) (c2 : ¬ c = 59) (c3 : ¬ c = 32) (c4 : ¬ c = 9) :
    Calls Tryz.prog 65 #[.pointer (some ⟨rb, 0, none⟩), .int .i64 (at_ : Int), .int .i32 c] w fun e w' => e = .returned (.tuple #[]) ∧ RdR B rb ob s (if bg = -1 ∧ r.remark = false then (at_ : Int) else bg) r vw vl w' ∧ Below B w w' := by
  have H := Lib.hid h
  have hB := h.hB
  have HQ : Hid (bg = -1 → RdR B rb ob s (at_ : Int) r vw vl (w.setCell ⟨rb, 2, none⟩ (.int .i64 (at_ : Int)))) := Lib.hid (fun _ => h.set (bg' := (at_ : Int)) (r' := r) 2 (.int .i64 (at_ : Int)) rfl rfl rfl)
  obtain ⟨⟨y0, y1, y2, y3, y4, y5, y6, y7, y8⟩, fz⟩ := h.cells
  have hlt := h.lt
  have f2 := fz 2
  have d1 : (c == 10) = false := by simp [c1]
  have d2 : (c == 59) = false := by simp [c2]
  have d3 : (c == 32) = false := by simp [c3]
  have d4 : (c == 9) = false := by simp [c4]
  obtain ⟨rm, hrm⟩ : ∃ rm, rm = r.remark := ⟨_, rfl⟩
  rw [← hrm] at y3 ⊢
  have hbb : bg = -1 ∨ (¬ bg = -1 ∧ (bg == -1) = false) := by
    rcases hbg with ⟨_, hb⟩ | ⟨i, _, _, hb⟩
    · exact .inl hb
    · exact .inr ⟨by omega, by rw [hb]; simp⟩
  clear h hbg fz hrm
  rcases hbb with rfl | ⟨g1, g2⟩ <;> rcases (show rm = false ∨ rm = true by cases rm <;> simp) with rfl | rfl
  · have HQ2 := Lib.hid (HQ.out rfl)
    clear HQ
    go_enter Tryz.func65, Tryz.ntmps65
    go_wp2
    go_end0
    exact ⟨rfl, HQ2.out, (Below.refl B w).setCell (p := ⟨rb, 2, none⟩) hB _⟩
  all_goals
    clear HQ
    go_enter Tryz.func65, Tryz.ntmps65
    go_wp2
    go_end0
    exact ⟨rfl, H.out, Below.refl B w⟩
set_option maxHeartbeats 16000000 in
set_option maxRecDepth 100000 in
theorem take_rem (B rb ob at_ : Nat) (bg : Int) (s : List UInt8) (r : Rd) (vw vl : Value) (w : World) (h : RdR B rb ob s bg r vw vl w) (hbg : BegR s at_ r.cur bg) (has : at_ ≤ s.length) (hs : s.length ≤ 281474976710656) (hm9 : r.words.length ≤ 403) :
    Calls Tryz.prog 65 #[.pointer (some ⟨rb, 0, none⟩), .int .i64 (at_ : Int), .int .i32 59] w (RdPost B rb ob s (-1) { endW r with remark := true } w) := by
  have HC := Lib.hid (endWord_any B rb ob at_ bg s r vw vl w h hbg has hs hm9)
  unfold RdPost at HC
  have hB := h.hB
  obtain ⟨rm, hrm⟩ : ∃ rm, rm = r.remark := ⟨_, rfl⟩
  have HR : Hid ((endW r).remark = rm) := Lib.hid ((endW_remark r).trans hrm.symm)
  (try rw [← hrm])
  clear h hbg has hs hm9 hrm
  rcases (show rm = false ∨ rm = true by cases rm <;> simp) with rfl | rfl <;>
  · go_enter Tryz.func65, Tryz.ntmps65
    go_upto_region 5 with (
      go_at_call 99
      refine HC.out.mono ?_
      rintro e w6 ⟨rfl, vw6, vl6, h6, hb6⟩
      have H6 := Lib.hid h6
      have HB6 := Lib.hid hb6
      clear h6 hb6)
    have hq := H6.out.set (bg' := -1) (r' := { endW r with remark := true }) 3 (.bool (true)) rfl rfl rfl
    (try rw [HR.out] at hq)
    have HQ := Lib.hid hq
    clear hq
    obtain ⟨⟨y0, y1, y2, y3, y4, y5, y6, y7, y8⟩, fz⟩ := H6.out.cells
    rw [HR.out] at y3
    have hlt := H6.out.lt
    have f3 := fz 3
    clear fz
    go_wp2
    go_end0
    exact ⟨rfl, _, _, HQ.out, HB6.out.setCell (p := ⟨rb, 3, none⟩) hB _⟩
set_option maxHeartbeats 16000000 in
set_option maxRecDepth 100000 in
theorem take_sp (B rb ob at_ : Nat) (bg : Int) (s : List UInt8) (r : Rd) (vw vl : Value) (w : World) (h : RdR B rb ob s bg r vw vl w) (hbg : BegR s at_ r.cur bg) (has : at_ ≤ s.length) (hs : s.length ≤ 281474976710656) (hm9 : r.words.length ≤ 403) :
    Calls Tryz.prog 65 #[.pointer (some ⟨rb, 0, none⟩), .int .i64 (at_ : Int), .int .i32 32] w (RdPost B rb ob s (-1) { endW r with remark := r.remark } w) := by
  have HC := Lib.hid (endWord_any B rb ob at_ bg s r vw vl w h hbg has hs hm9)
  unfold RdPost at HC
  have hB := h.hB
  obtain ⟨rm, hrm⟩ : ∃ rm, rm = r.remark := ⟨_, rfl⟩
  have HR : Hid ((endW r).remark = rm) := Lib.hid ((endW_remark r).trans hrm.symm)
  (try rw [← hrm])
  clear h hbg has hs hm9 hrm
  rcases (show rm = false ∨ rm = true by cases rm <;> simp) with rfl | rfl <;>
  · go_enter Tryz.func65, Tryz.ntmps65
    go_upto_region 5 with (
      go_at_call 99
      refine HC.out.mono ?_
      rintro e w6 ⟨rfl, vw6, vl6, h6, hb6⟩
      have H6 := Lib.hid h6
      have HB6 := Lib.hid hb6
      clear h6 hb6)
    have hq := H6.out.set (bg' := -1) (r' := { endW r with remark := (endW r).remark }) 3 (.bool (endW r).remark) rfl rfl rfl
    (try rw [HR.out] at hq)
    have HQ := Lib.hid hq
    clear hq
    obtain ⟨⟨y0, y1, y2, y3, y4, y5, y6, y7, y8⟩, fz⟩ := H6.out.cells
    rw [HR.out] at y3
    have hlt := H6.out.lt
    have f3 := fz 3
    clear fz
    go_wp2
    go_end0
    exact ⟨rfl, _, _, HQ.out, HB6.out.setCell (p := ⟨rb, 3, none⟩) hB _⟩
set_option maxHeartbeats 16000000 in
set_option maxRecDepth 100000 in
theorem take_tab (B rb ob at_ : Nat) (bg : Int) (s : List UInt8) (r : Rd) (vw vl : Value) (w : World) (h : RdR B rb ob s bg r vw vl w) (hbg : BegR s at_ r.cur bg) (has : at_ ≤ s.length) (hs : s.length ≤ 281474976710656) (hm9 : r.words.length ≤ 403) :
    Calls Tryz.prog 65 #[.pointer (some ⟨rb, 0, none⟩), .int .i64 (at_ : Int), .int .i32 9] w (RdPost B rb ob s (-1) { endW r with remark := r.remark } w) := by
  have HC := Lib.hid (endWord_any B rb ob at_ bg s r vw vl w h hbg has hs hm9)
  unfold RdPost at HC
  have hB := h.hB
  obtain ⟨rm, hrm⟩ : ∃ rm, rm = r.remark := ⟨_, rfl⟩
  have HR : Hid ((endW r).remark = rm) := Lib.hid ((endW_remark r).trans hrm.symm)
  (try rw [← hrm])
  clear h hbg has hs hm9 hrm
  rcases (show rm = false ∨ rm = true by cases rm <;> simp) with rfl | rfl <;>
  · go_enter Tryz.func65, Tryz.ntmps65
    go_upto_region 5 with (
      go_at_call 99
      refine HC.out.mono ?_
      rintro e w6 ⟨rfl, vw6, vl6, h6, hb6⟩
      have H6 := Lib.hid h6
      have HB6 := Lib.hid hb6
      clear h6 hb6)
    have hq := H6.out.set (bg' := -1) (r' := { endW r with remark := (endW r).remark }) 3 (.bool (endW r).remark) rfl rfl rfl
    (try rw [HR.out] at hq)
    have HQ := Lib.hid hq
    clear hq
    obtain ⟨⟨y0, y1, y2, y3, y4, y5, y6, y7, y8⟩, fz⟩ := H6.out.cells
    rw [HR.out] at y3
    have hlt := H6.out.lt
    have f3 := fz 3
    clear fz
    go_wp2
    go_end0
    exact ⟨rfl, _, _, HQ.out, HB6.out.setCell (p := ⟨rb, 3, none⟩) hB _⟩
set_option maxHeartbeats 16000000 in
set_option maxRecDepth 100000 in
theorem take_nl (B rb ob at_ k : Nat) (bg : Int) (s : List UInt8) (r : Rd) (vw vl : Value) (w : World) (h : RdR B rb ob s bg r vw vl w) (hbg : BegR s at_ r.cur bg) (has : at_ ≤ s.length) (hs : s.length ≤ 281474976710656) (hk : CntR k r) (hk2 : k ≤ 281474976710656) :
    Calls Tryz.prog 65 #[.pointer (some ⟨rb, 0, none⟩), .int .i64 (at_ : Int), .int .i32 10] w (RdPost B rb ob s (-1) (endL (endW r)) w) := by
  have HC := Lib.hid (endWord_any B rb ob at_ bg s r vw vl w h hbg has hs hk.1)
  have hc := cnt_endW hk
  have HL : Hid (∀ vw vl w, RdR B rb ob s (-1) (endW r) vw vl w → Calls Tryz.prog 100 #[.pointer (some ⟨rb, 0, none⟩)] w (RdPost B rb ob s (-1) (endL (endW r)) w)) := Lib.hid (fun vw vl w h => endLine_any B rb ob (-1) s _ vw vl w h hc.1 (Nat.le_trans hc.2.1 hk2) (Nat.le_trans hc.2.2.1 hk2) hc.2.2.2)
  unfold RdPost at HC HL
  clear h hbg has hs hk hk2 hc
  go_enter Tryz.func65, Tryz.ntmps65
  go_wp2_with (first
    | (go_at_call 99
       with_reducible refine HC.out.mono ?_
       rintro e w6 ⟨rfl, vw6, vl6, h6, hb6⟩
       have H6 := Lib.hid h6
       have HB6 := Lib.hid hb6
       clear h6 hb6)
    | (go_at_call 100
       with_reducible refine (HL.out _ _ _ H6.out).mono ?_
       rintro e w7 ⟨rfl, vw7, vl7, h7, hb7⟩
       have H7 := Lib.hid h7
       have HB7 := Lib.hid hb7
       clear h7 hb7))
  go_end0
  exact ⟨rfl, _, _, H7.out, HB6.out.trans HB7.out⟩
end Go.Proofs.YthojmbljlehpbaaGreatDoor.Lists
