/- The document's Run: what it refuses. No condition. -/
import Derived.Test.YtopceggmdieppaaDoorHD
import Derived.Test.YtopceggmdieppaaDoorGK
namespace Go.Proofs.YtopceggmdieppaaDoor.Emu
open Go.RowKit Go.Proofs.YtopceggmdieppaaDoor.Enc Go.Proofs.YtopceggmdieppaaDoor.Graph

set_option maxHeartbeats 8000000 in
set_option maxRecDepth 100000 in
theorem rrun_no (m : Image) (vw vk vd : Value) (input : List UInt8) (fuel : Int) (w : World) (h : ImgR w m vw vk vd) (hsm : SmI m) (_hf : inR fuel) (hbad : ¬ (mayI m = true ∧ input.length ≤ 10000 ∧ 0 ≤ fuel ∧ fuel ≤ 1073741824)) :
    Calls Tryd.prog 21 #[.agg #[vw, vk, vd, .int .i64 m.entry], .string ⟨input.toArray⟩, .int .i64 fuel] w fun e w' =>
      e = .returned (.tuple #[outV (runP ar hs m input fuel).1, .int .i64 (runP ar hs m input fuel).2]) ∧ Below w.heap.size w w' := by
  have HMB := Lib.hid (fun (W : World) (hb : Below w.heap.size w W) => rmay_any W m vw vk vd (h.below hb) hsm)
  obtain ⟨wp, wc, rfl⟩ := SlR.form h.words
  obtain ⟨kp, kc, rfl⟩ := SlR.form h.kinds
  obtain ⟨dp, dc, rfl⟩ := SlR.form h.data
  have HB0 := Lib.hid (((below_one w (.cells #[.slice wp m.words.length wc, .slice kp m.kinds.length kc, .slice dp m.data.length dc, .int .i64 m.entry] 48)).alloc (by simp) (.cells #[.int .i64 0, .int .u32 0, .string ⟨#[]⟩, .int .i64 0] 51)))
  have HO := Lib.hid (show ((w.alloc (.cells #[.slice wp m.words.length wc, .slice kp m.kinds.length kc, .slice dp m.data.length dc, .int .i64 m.entry] 48)).alloc (.cells #[.int .i64 0, .int .u32 0, .string ⟨#[]⟩, .int .i64 0] 51)).heap[w.heap.size + 1]? = some (.cells #[.int .i64 0, .int .u32 0, .string ⟨#[]⟩, .int .i64 0] 51 (0, 0)) from by
    have := heap_alloc_new (w.alloc (.cells #[.slice wp m.words.length wc, .slice kp m.kinds.length kc, .slice dp m.data.length dc, .int .i64 m.entry] 48)) (.cells #[.int .i64 0, .int .u32 0, .string ⟨#[]⟩, .int .i64 0] 51)
    rwa [World.size_alloc] at this)
  have HI := Lib.hid (show ((w.alloc (.cells #[.slice wp m.words.length wc, .slice kp m.kinds.length kc, .slice dp m.data.length dc, .int .i64 m.entry] 48)).alloc (.cells #[.int .i64 0, .int .u32 0, .string ⟨#[]⟩, .int .i64 0] 51)).heap[w.heap.size]? = some (.cells #[.slice wp m.words.length wc, .slice kp m.kinds.length kc, .slice dp m.data.length dc, .int .i64 m.entry] 48 (0, 0)) from
    (Below.heap_alloc _ _ _ (by simp)).trans (heap_alloc_new w _))
  cases hM : mayI m with
  | false =>
    have hr : runP ar hs m input fuel = (noOut, 1) := by unfold runP; rw [hM]; rfl
    rw [hr]
    rw [hM] at HMB
    clear h hbad _hf hsm hr
    generalize m.words.length = n at *
    generalize m.kinds.length = kn at *
    generalize m.data.length = dn at *
    go_enter Tryd.func21, Tryd.ntmps21
    go_wp2_with (go_at_call 45; refine (HMB.out _ HB0.out).mono ?_; rintro e w1 ⟨rfl, hb⟩; have HO1 := Lib.hid ((hb.block (w.heap.size + 1) (by simp)).trans HO.out); obtain ⟨⟨x0, x1, x2, x3⟩, y0, y1, y2, y3⟩ := fourE HO1.out; have HB1 := Lib.hid (bt HB0.out hb); clear hb)
    refine bodyPost_ret (v := .tuple #[outV noOut, .int .i64 1]) ?_ rfl ⟨rfl, ?_⟩
    · obtain ⟨⟨e0, e1, e2, e3⟩, _⟩ := fourE (put4 HO1.out (.int .i64 0) (.int .u32 0) (.string ⟨#[]⟩) (.int .i64 0))
      simp [results, Tryd.results21, go_sem, noOut, e0, e1, e2, e3]
    · exact below4 HB1.out (by omega) _ _ _ _
  | true =>
    rw [hM] at HMB hbad
    by_cases hin : input.length ≤ 10000
    · by_cases hf0 : fuel < 0
      · have hr : runP ar hs m input fuel = (noOut, 1) := by unfold runP; rw [hM, if_pos rfl, if_pos hin, if_neg (by omega)]
        rw [hr]
        have q1 : decide ((10000 : Int) < input.length) = false := decide_eq_false (by omega)
        have q2 : decide (fuel < 0) = true := decide_eq_true hf0
        clear h hbad _hf hsm hr hin hf0
        generalize m.words.length = n at *
        generalize m.kinds.length = kn at *
        generalize m.data.length = dn at *
        go_enter Tryd.func21, Tryd.ntmps21
        go_wp2_with (go_at_call 45; refine (HMB.out _ HB0.out).mono ?_; rintro e w1 ⟨rfl, hb⟩; have HO1 := Lib.hid ((hb.block (w.heap.size + 1) (by simp)).trans HO.out); obtain ⟨⟨x0, x1, x2, x3⟩, y0, y1, y2, y3⟩ := fourE HO1.out; have HB1 := Lib.hid (bt HB0.out hb); clear hb)
        refine bodyPost_ret (v := .tuple #[outV noOut, .int .i64 1]) ?_ rfl ⟨rfl, ?_⟩
        · obtain ⟨⟨e0, e1, e2, e3⟩, _⟩ := fourE (put4 HO1.out (.int .i64 0) (.int .u32 0) (.string ⟨#[]⟩) (.int .i64 0))
          simp [results, Tryd.results21, go_sem, noOut, e0, e1, e2, e3]
        · exact below4 HB1.out (by omega) _ _ _ _
      · by_cases hf1 : 1073741824 < fuel
        · have hr : runP ar hs m input fuel = (noOut, 1) := by unfold runP; rw [hM, if_pos rfl, if_pos hin, if_neg (by omega)]
          rw [hr]
          have q1 : decide ((10000 : Int) < input.length) = false := decide_eq_false (by omega)
          have q2 : decide (fuel < 0) = false := decide_eq_false hf0
          have q3 : decide ((1073741824 : Int) < fuel) = true := decide_eq_true hf1
          clear h hbad _hf hsm hr hin hf0 hf1
          generalize m.words.length = n at *
          generalize m.kinds.length = kn at *
          generalize m.data.length = dn at *
          go_enter Tryd.func21, Tryd.ntmps21
          go_wp2_with (go_at_call 45; refine (HMB.out _ HB0.out).mono ?_; rintro e w1 ⟨rfl, hb⟩; have HO1 := Lib.hid ((hb.block (w.heap.size + 1) (by simp)).trans HO.out); obtain ⟨⟨x0, x1, x2, x3⟩, y0, y1, y2, y3⟩ := fourE HO1.out; have HB1 := Lib.hid (bt HB0.out hb); clear hb)
          refine bodyPost_ret (v := .tuple #[outV noOut, .int .i64 1]) ?_ rfl ⟨rfl, ?_⟩
          · obtain ⟨⟨e0, e1, e2, e3⟩, _⟩ := fourE (put4 HO1.out (.int .i64 0) (.int .u32 0) (.string ⟨#[]⟩) (.int .i64 0))
            simp [results, Tryd.results21, go_sem, noOut, e0, e1, e2, e3]
          · exact below4 HB1.out (by omega) _ _ _ _
        · exact absurd ⟨rfl, hin, by omega, by omega⟩ hbad
    · have hr : runP ar hs m input fuel = (noOut, 2) := by unfold runP; rw [hM, if_pos rfl, if_neg hin]
      rw [hr]
      have q1 : decide ((10000 : Int) < input.length) = true := decide_eq_true (by omega)
      clear h hbad _hf hsm hr hin
      generalize m.words.length = n at *
      generalize m.kinds.length = kn at *
      generalize m.data.length = dn at *
      go_enter Tryd.func21, Tryd.ntmps21
      go_wp2_with (go_at_call 45; refine (HMB.out _ HB0.out).mono ?_; rintro e w1 ⟨rfl, hb⟩; have HO1 := Lib.hid ((hb.block (w.heap.size + 1) (by simp)).trans HO.out); obtain ⟨⟨x0, x1, x2, x3⟩, y0, y1, y2, y3⟩ := fourE HO1.out; have HB1 := Lib.hid (bt HB0.out hb); clear hb)
      refine bodyPost_ret (v := .tuple #[outV noOut, .int .i64 2]) ?_ rfl ⟨rfl, ?_⟩
      · obtain ⟨⟨e0, e1, e2, e3⟩, _⟩ := fourE (put4 HO1.out (.int .i64 0) (.int .u32 0) (.string ⟨#[]⟩) (.int .i64 0))
        simp [results, Tryd.results21, go_sem, noOut, e0, e1, e2, e3]
      · exact below4 HB1.out (by omega) _ _ _ _
end Go.Proofs.YtopceggmdieppaaDoor.Emu
