/- Parse, for any text. No condition but sizes. -/
import Derived.Test.YthojmbljlehpbaaGreatDoorG34
namespace Go.Proofs.YthojmbljlehpbaaGreatDoor.Lists
open Go.RowKit Go.Proofs.YthojmbljlehpbaaGreatDoor.Relax Go.Proofs.YthojmbljlehpbaaGreatDoor.Graph
open Go.Lib hiding intOf
open Go.Proofs.YthojmbljlehpbaaGreatDoor.Enc hiding below_one bt ret_bool

def ParsePost (s : List UInt8) (w : World) (e : Ending) (w' : World) : Prop :=
  ∃ p c, e = .returned (.tuple #[.slice p (parseP s).1.length c, .int .i64 (parseP s).2.1, .int .i64 (parseP s).2.2]) ∧ LinesR w' (.slice p (parseP s).1.length c) (parseP s).1 ∧ Below w.heap.size w w'
set_option maxHeartbeats 16000000 in
set_option maxRecDepth 100000 in
theorem parse_any (s : List UInt8) (w : World) (hL : LaidL w) (h8 : 8 ≤ w.heap.size) (hs : s.length ≤ 281474976710655) :
    Calls Tryz.prog 17 #[.string ⟨s.toArray⟩] w (ParsePost s w) := by
  have HN := Lib.hid (newReader_any s w hL h8)
  have HR : Hid (∀ rb ob vw vl W, @RdR it0 w.heap.size rb ob s (-1) rd0 vw vl W → Calls Tryz.prog 35 #[.pointer (some ⟨rb, 0, none⟩)] W fun e w' => e = .returned (.tuple #[]) ∧ ∃ bg vw vl, @RdR it0 w.heap.size rb ob s bg (parseRd s) vw vl w' ∧ Below w.heap.size W w') := Lib.hid (fun rb ob vw vl W h => read_any _ rb ob s vw vl W h hs)
  obtain ⟨r, hr⟩ : ∃ r, r = parseRd s := ⟨_, rfl⟩
  have HP : Hid (parseP s = if r.wrong then ([], (r.number : Int), 220) else if 60000 < r.count then ([], 0, 2) else (r.lines, 0, 0)) := Lib.hid (by rw [hr]; rfl)
  rw [← hr] at HR
  clear hr hL h8 hs
  obtain ⟨wg, hwg⟩ : ∃ wg, wg = r.wrong := ⟨_, rfl⟩
  have HWG := Lib.hid hwg
  clear hwg
  rcases (show wg = true ∨ (wg = false ∧ (60000 < r.count ∨ ¬ 60000 < r.count)) by cases wg <;> simp; omega) with rfl | ⟨rfl, hc⟩
  · go_enter Tryz.func17, Tryz.ntmps17
    go_upto_region 4 with (first
      | (go_at_call 34
         with_reducible refine HN.out.mono ?_
         rintro e w6 ⟨rb, ob, rfl, h6, hb6⟩
         have H6 := Lib.hid h6
         have HB6 := Lib.hid hb6
         clear h6 hb6)
      | (go_at_call 35
         with_reducible refine (HR.out _ _ _ _ _ H6.out).mono ?_
         rintro e w7 ⟨rfl, bg7, vw7, vl7, h7, hb7⟩
         have H7 := Lib.hid h7
         have HB7 := Lib.hid hb7
         obtain ⟨⟨y0, y1, y2, y3, y4, y5, y6, y7, y8⟩, -⟩ := @RdR.cells it0 _ _ _ _ _ _ _ _ _ h7
         rw [← HWG.out] at y8
         clear h7 hb7))
    go_quiet (fail)
    go_wp2
    go_ret3
    unfold ParsePost
    rw [HP.out, ← HWG.out]
    exact ⟨none, 0, rfl, .inl ⟨rfl, none, 0, rfl⟩, (HB6.out.trans HB7.out).trans ⟨rfl, rfl, rfl, Nat.le_refl _, fun _ _ => rfl⟩⟩
  rcases hc with hc | hc
  · have c1 : (60000 : Int) < r.count := by omega
    go_enter Tryz.func17, Tryz.ntmps17
    go_wp2_with (first
      | (go_at_call 34
         with_reducible refine HN.out.mono ?_
         rintro e w6 ⟨rb, ob, rfl, h6, hb6⟩
         have H6 := Lib.hid h6
         have HB6 := Lib.hid hb6
         clear h6 hb6)
      | (go_at_call 35
         with_reducible refine (HR.out _ _ _ _ _ H6.out).mono ?_
         rintro e w7 ⟨rfl, bg7, vw7, vl7, h7, hb7⟩
         have H7 := Lib.hid h7
         have HB7 := Lib.hid hb7
         obtain ⟨⟨y0, y1, y2, y3, y4, y5, y6, y7, y8⟩, -⟩ := @RdR.cells it0 _ _ _ _ _ _ _ _ _ h7
         rw [← HWG.out] at y8
         clear h7 hb7))
    go_ret3
    unfold ParsePost
    rw [HP.out, ← HWG.out, if_neg (by simp), if_pos hc]
    exact ⟨none, 0, rfl, .inl ⟨rfl, none, 0, rfl⟩, HB6.out.trans HB7.out⟩
  · have c1 : ¬ (60000 : Int) < r.count := by omega
    go_enter Tryz.func17, Tryz.ntmps17
    go_wp2_with (first
      | (go_at_call 34
         with_reducible refine HN.out.mono ?_
         rintro e w6 ⟨rb, ob, rfl, h6, hb6⟩
         have H6 := Lib.hid h6
         have HB6 := Lib.hid hb6
         clear h6 hb6)
      | (go_at_call 35
         with_reducible refine (HR.out _ _ _ _ _ H6.out).mono ?_
         rintro e w7 ⟨rfl, bg7, vw7, vl7, h7, hb7⟩
         have H7 := Lib.hid h7
         have HB7 := Lib.hid hb7
         obtain ⟨⟨y0, y1, y2, y3, y4, y5, y6, y7, y8⟩, -⟩ := @RdR.cells it0 _ _ _ _ _ _ _ _ _ h7
         rw [← HWG.out] at y8
         clear h7 hb7))
    go_ret3
    unfold ParsePost
    rw [HP.out, ← HWG.out, if_neg (by simp), if_neg hc]
    have hl := @RdR.lines it0 _ _ _ _ _ _ _ _ _ H7.out
    obtain ⟨p, c, hv⟩ := hl.form
    subst hv
    exact ⟨p, c, rfl, hl.lines, HB6.out.trans HB7.out⟩
end Go.Proofs.YthojmbljlehpbaaGreatDoor.Lists
