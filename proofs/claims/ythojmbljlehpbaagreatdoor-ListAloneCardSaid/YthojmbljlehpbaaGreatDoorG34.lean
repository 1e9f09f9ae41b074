/- A text is read, and parsed. No condition but sizes. -/
import Derived.Test.YthojmbljlehpbaaGreatDoorG33
namespace Go.Proofs.YthojmbljlehpbaaGreatDoor.Lists
open Go.RowKit Go.Proofs.YthojmbljlehpbaaGreatDoor.Relax Go.Proofs.YthojmbljlehpbaaGreatDoor.Graph
open Go.Lib hiding intOf
open Go.Proofs.YthojmbljlehpbaaGreatDoor.Enc hiding below_one bt ret_bool

abbrev it0 : ItP := ⟨none⟩
theorem take_next (s : List UInt8) (p k : Nat) : s.take (p + k) = s.take p ++ (s.drop p).take k := List.take_add
set_option maxHeartbeats 16000000 in
set_option maxRecDepth 100000 in
theorem newReader_any (s : List UInt8) (w : World) (hL : LaidL w) (h8 : 8 ≤ w.heap.size) :
    Calls Tryz.prog 34 #[.string ⟨s.toArray⟩] w fun e w' => ∃ rb ob, e = .returned (.pointer (some ⟨rb, 0, none⟩)) ∧ @RdR it0 w.heap.size rb ob s (-1) rd0 (.slice none 0 0) (.slice none 0 0) w' ∧ Below w.heap.size w w' := by
  have HO := Lib.hid (opsByName_any w hL)
  have HL := Lib.hid hL
  clear hL
  go_enter Tryz.func34, Tryz.ntmps34
  go_wp2_with (
    go_at_call 64
    refine HO.out.mono ?_
    rintro e w6 ⟨ob, rfl, hob, ho, hb6⟩
    have H6 := Lib.hid ho
    have HB6 := Lib.hid hb6
    clear ho hb6)
  go_ret
  have hbx := heap_alloc_new w6 (.cells (rdCs s ob (-1) rd0 (.slice none 0 0) (.slice none 0 0)) 70)
  have hop : OpsAt (w6.alloc (.cells (rdCs s ob (-1) rd0 (.slice none 0 0) (.slice none 0 0)) 70)) ob 49 := by
    have ho := H6.out
    unfold OpsAt at ho ⊢
    exact ho.alloc _
  have hR : @RdR it0 w.heap.size w6.heap.size ob s (-1) rd0 (.slice none 0 0) (.slice none 0 0) (w6.alloc (.cells (rdCs s ob (-1) rd0 (.slice none 0 0) (.slice none 0 0)) 70)) := by
    letI : ItP := it0
    exact ⟨hbx, World.ownsRow_nil _ _ _ _, ⟨[], rfl, World.ownsRow_nil _ _ _ _, by simp⟩, hop, HB6.out.size, h8, HL.out.below (HB6.out.alloc HB6.out.size _), fun k p e => by cases e⟩
  exact ⟨w6.heap.size, ob, rfl, hR, HB6.out.alloc HB6.out.size _⟩
set_option maxHeartbeats 16000000 in
set_option maxRecDepth 100000 in
theorem read_any (B rb ob : Nat) (s : List UInt8) (vw vl : Value) (w : World) (h : @RdR it0 B rb ob s (-1) rd0 vw vl w) (hs : s.length ≤ 281474976710655) :
    Calls Tryz.prog 35 #[.pointer (some ⟨rb, 0, none⟩)] w fun e w' => e = .returned (.tuple #[]) ∧ ∃ bg vw vl, @RdR it0 B rb ob s bg (parseRd s) vw vl w' ∧ Below B w w' := by
  obtain ⟨k0, hk0⟩ : ∃ k0, k0 = w.heap.size := ⟨_, rfl⟩
  have hlt := @RdR.lt it0 _ _ _ _ _ _ _ _ _ h
  have hB := @RdR.hB it0 _ _ _ _ _ _ _ _ _ h
  have hkB : B ≤ k0 := by omega
  obtain ⟨⟨y0, y1, y2, y3, y4, y5, y6, y7, y8⟩, -⟩ := @RdR.cells it0 _ _ _ _ _ _ _ _ _ h
  have hal : Below w.heap.size w (w.iter ⟨s.toArray⟩ 0) := below_one w _
  have HI0 : Hid (@RdR ⟨some (k0, 0)⟩ B rb ob s (-1) rd0 vw vl (w.iter ⟨s.toArray⟩ 0)) := Lib.hid ((@RdR.below it0 _ _ _ _ _ _ _ _ _ _ h hal).re _ (fun k p e => by
    injection e with e
    injection e with e1 e2
    subst e1 e2
    rw [hk0]
    exact World.iter_heap w _ 0))
  have HB0 : Hid (Below B w (w.iter ⟨s.toArray⟩ 0)) := Lib.hid (hal.mono (Nat.le_trans hkB (Nat.le_of_eq hk0)))
  have hsz := size_list s
  clear h hal
  go_enter Tryz.func35, Tryz.ntmps35
  go_wp2
  rw [← hk0]
  go_loopw [2, 3] (fun _ _ wr => ∃ (pos : Nat) (bg : Int) (vw vl : Value), pos ≤ s.length ∧ Hid (@RdR ⟨some (k0, pos)⟩ B rb ob s bg (readR (s.take pos) rd0) vw vl wr) ∧ Hid (Below B w wr) ∧ Hid (BegR s pos (readR (s.take pos) rd0).cur bg) ∧ Hid (CntR pos (readR (s.take pos) rd0)) ∧ (readR (s.take pos) rd0).wrong = false) (fun _ _ wr => s.length - wr.iterPos k0)
  case atStart => exact ⟨0, -1, vw, vl, Nat.zero_le _, HI0, HB0, Lib.hid (.inl ⟨rfl, rfl⟩), Lib.hid (show CntR 0 rd0 by unfold CntR rd0; simp), rfl⟩
  case round =>
    obtain ⟨pos, bg, vq, vm, hpos, HR, HB, HG, HC, hw⟩ := hrel
    clear HI0 HB0 y0 y1 y2 y3 y4 y5 y6 y7 y8 hlt hk0
    have hit := @RdR.it ⟨some (k0, pos)⟩ _ _ _ _ _ _ _ _ _ HR.out k0 pos rfl
    have hmu : wr.iterPos k0 = pos := by simp [World.iterPos, hit]
    by_cases hp : pos < s.length
    · have hnx : ∀ ty, (Instr.next (.pointer (some ⟨k0, 0, none⟩)) true ty).run Tryz.prog wr = _ := fun ty => run_next_any_at wr k0 ⟨s.toArray⟩ pos ty hit (by rw [hsz]; exact hp)
      have HR1 := RdR.moved (i := ⟨some (k0, pos)⟩) (j := ⟨some (k0, pos + (Utf8.decode ⟨s.toArray⟩ pos).2)⟩) rfl rfl hkB HR.out
      have HB1 := Lib.hid (below_iterAt HB.out hkB ⟨s.toArray⟩ (pos + (Utf8.decode ⟨s.toArray⟩ pos).2))
      obtain ⟨HT, hle, h1d⟩ := @take_step ⟨some (k0, pos + (Utf8.decode ⟨s.toArray⟩ pos).2)⟩ B rb ob pos bg s _ vq vm _ HR1 HG.out hp (by omega) HC.out hw
      rw [← read_append, ← take_next] at HT
      have HT := Lib.hid HT
      clear HR1 HR HG HC hw hit
      obtain ⟨c, hc⟩ : ∃ c, c = (Utf8.decode ⟨s.toArray⟩ pos).1 := ⟨_, rfl⟩
      obtain ⟨pq, hpq⟩ : ∃ pq, pq = pos + (Utf8.decode ⟨s.toArray⟩ pos).2 := ⟨_, rfl⟩
      rw [← hpq] at HT hnx HB1 hle
      rw [← hc] at HT hnx
      have hpp : pos < pq := by omega
      clear hc hpq h1d
      generalize wr.iterAt k0 ⟨s.toArray⟩ pq = W1 at HT hnx HB1
      obtain ⟨r, hr⟩ : ∃ r, r = readR (s.take pq) rd0 := ⟨_, rfl⟩
      rw [← hr] at HT
      have HRR := Lib.hid hr
      clear hr
      unfold StepQ at HT
      obtain ⟨wg, hwg⟩ : ∃ wg, wg = r.wrong := ⟨_, rfl⟩
      have HWG := Lib.hid hwg
      clear hwg
      rcases (show wg = false ∨ wg = true by cases wg <;> simp) with rfl | rfl
      · go_wp2_with (
          go_at_call 65
          with_reducible refine HT.out.mono ?_
          rintro e w6 ⟨rfl, bg6, vw6, vl6, h6, hb6, hg6, hc6⟩
          have H6 := Lib.hid h6
          have HB6 := Lib.hid hb6
          have HG6 := Lib.hid hg6
          have HC6 := Lib.hid hc6
          obtain ⟨⟨y0, y1, y2, y3, y4, y5, y6, y7, y8⟩, -⟩ := @RdR.cells ⟨some (k0, pq)⟩ _ _ _ _ _ _ _ _ _ h6
          rw [← HWG.out] at y8
          clear h6 hb6 hg6 hc6)
        go_roundw
        case rel =>
          refine ⟨pq, bg6, vw6, vl6, hle, ?_, Lib.hid (HB1.out.trans HB6.out), ?_, ?_, ?_⟩
          · rw [← HRR.out]; exact H6
          · rw [← HRR.out]; exact HG6
          · rw [← HRR.out]; exact HC6
          · rw [← HRR.out]; exact HWG.out.symm
        case measure =>
          have hit6 := @RdR.it ⟨some (k0, pq)⟩ _ _ _ _ _ _ _ _ _ H6.out k0 pq rfl
          have hmu6 : w6.iterPos k0 = pq := by simp [World.iterPos, hit6]
          rw [hmu, hmu6]
          omega
      · go_wp2_with (
          go_at_call 65
          with_reducible refine HT.out.mono ?_
          rintro e w6 ⟨rfl, bg6, vw6, vl6, h6, hb6, hg6, hc6⟩
          have H6 := Lib.hid h6
          have HB6 := Lib.hid hb6
          obtain ⟨⟨y0, y1, y2, y3, y4, y5, y6, y7, y8⟩, -⟩ := @RdR.cells ⟨some (k0, pq)⟩ _ _ _ _ _ _ _ _ _ h6
          rw [← HWG.out] at y8
          clear h6 hb6 hg6 hc6)
        refine bodyPost_ret (results_none (by rfl) _ _ _) rfl ?_
        have hpr : parseRd s = r := by
          unfold parseRd
          rw [read_append]
          have e1 : s = s.take pq ++ s.drop pq := (List.take_append_drop _ _).symm
          rw [e1, read_append, ← HRR.out, read_wrong HWG.out.symm, read_wrong HWG.out.symm]
        rw [hpr]
        exact ⟨rfl, bg6, vw6, vl6, H6.out.re it0 (fun k p e => by cases e), HB1.out.trans HB6.out⟩
    · have hnx : ∀ ty, (Instr.next (.pointer (some ⟨k0, 0, none⟩)) true ty).run Tryz.prog wr = _ := fun ty => run_next_end_at wr k0 ⟨s.toArray⟩ pos ty hit (by rw [hsz]; exact hp)
      obtain rfl : pos = s.length := by omega
      obtain ⟨⟨y0, y1, y2, y3, y4, y5, y6, y7, y8⟩, -⟩ := @RdR.cells ⟨some (k0, s.length)⟩ _ _ _ _ _ _ _ _ _ HR.out
      have HT := Lib.hid (@take_nl ⟨some (k0, s.length)⟩ B rb ob s.length s.length bg s _ vq vm wr HR.out HG.out (Nat.le_refl _) (by omega) HC.out (by omega))
      have hpr : parseRd s = endL (endW (readR (s.take s.length) rd0)) := by
        unfold parseRd
        rw [read_append, read_cons, read_nil, List.take_length]
        rw [List.take_length] at hw
        rw [step_of hw]
        rfl
      unfold RdPost at HT
      rw [← hpr] at HT
      clear HR HG HC hw hit hpr
      go_wp2_with (
        go_at_call 65
        (try rw [hsz])
        with_reducible refine HT.out.mono ?_
        rintro e w6 ⟨rfl, vw6, vl6, h6, hb6⟩
        have H6 := Lib.hid h6
        have HB6 := Lib.hid hb6
        clear h6 hb6)
      go_end0
      exact ⟨rfl, -1, vw6, vl6, H6.out.re it0 (fun k p e => by cases e), HB.out.trans HB6.out⟩
end Go.Proofs.YthojmbljlehpbaaGreatDoor.Lists
