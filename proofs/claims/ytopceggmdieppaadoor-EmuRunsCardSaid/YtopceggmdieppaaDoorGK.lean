/- emu.Run: what comes of a run. No condition. -/
import Derived.Test.YtopceggmdieppaaDoorBw
import Derived.Test.YtopceggmdieppaaDoorHD
import Derived.Test.YtopceggmdieppaaDoorBq
import Derived.Deep.RegionHeld3
namespace Go.Proofs.YtopceggmdieppaaDoor.Emu
open Go.RowKit Go.Proofs.YtopceggmdieppaaDoor.Enc Go.Proofs.YtopceggmdieppaaDoor.Graph

theorem does_do : DoesDo := fun _ _ _ _ _ _ _ _ _ _ h h0 hI hE hEa hEh hwk hp hbl c hm => do_prog h h0 hI hE hEa hEh hwk hp hbl c hm
theorem start_inv (E : Env) (data : List Int) (entry : Int) (hl : data.length ≤ 524288) (hd : ∀ v ∈ data, isW v) (he : 0 ≤ entry ∧ entry ≤ 65536) : Inv (start E data entry) := by
  refine ⟨by simp [start], fun v hv => ?_, memL_length hl, fun v hv => ?_, ⟨by show (-1099511627776 : Int) ≤ entry; omega, by show entry ≤ 1099511627776; omega⟩, fun p hp => ?_, Nat.zero_le _⟩
  · have : v = 0 := by
      have hv : v ∈ List.replicate 12 (0 : Int) := hv
      exact (List.mem_replicate.1 hv).2
    rw [this]
    exact ⟨by omega, by omega⟩
  · have hv : v ∈ data ++ List.replicate (524288 - data.length) (0 : Int) := hv
    rcases List.mem_append.1 hv with h1 | h1
    · exact hd v h1
    · rw [(List.mem_replicate.1 h1).2]
      exact ⟨by omega, by omega⟩
  · have hp : p ∈ ([] : List Int) := hp
    cases hp
theorem outOf_bytes (m : M) : (outOf m).bytes = m.bytes := by unfold outOf; split <;> rfl
theorem outOf_stop {m : M} (h : m.stop ≠ 0) : outOf m = ⟨m.stop, m.code, m.bytes, m.steps⟩ := by unfold outOf; rw [if_neg h]
theorem fourE {w : World} {g : Nat} {t : TypeId} {a b c d : Value} (h : w.heap[g]? = some (.cells #[a, b, c, d] t (0, 0))) : (w.cell? ⟨g, 0, none⟩ = some a ∧ w.cell? ⟨g, 1, none⟩ = some b ∧ w.cell? ⟨g, 2, none⟩ = some c ∧ w.cell? ⟨g, 3, none⟩ = some d) ∧ w.frozen? ⟨g, 0, none⟩ = false ∧ w.frozen? ⟨g, 1, none⟩ = false ∧ w.frozen? ⟨g, 2, none⟩ = false ∧ w.frozen? ⟨g, 3, none⟩ = false :=
  ⟨⟨(cell_of_block h rfl).1, (cell_of_block h rfl).1, (cell_of_block h rfl).1, (cell_of_block h rfl).1⟩, (cell_of_block h (k := 0) rfl).2, (cell_of_block h (k := 1) rfl).2, (cell_of_block h (k := 2) rfl).2, (cell_of_block h (k := 3) rfl).2⟩
theorem put4 {w : World} {g : Nat} {t : TypeId} {a b c d : Value} (h : w.heap[g]? = some (.cells #[a, b, c, d] t (0, 0))) (a' b' c' d' : Value) : ((((w.setCell ⟨g, 0, none⟩ a').setCell ⟨g, 1, none⟩ b').setCell ⟨g, 2, none⟩ c').setCell ⟨g, 3, none⟩ d').heap[g]? = some (.cells #[a', b', c', d'] t (0, 0)) :=
  heap_setCell_same _ _ _ _ _ _ (heap_setCell_same _ _ _ _ _ _ (heap_setCell_same _ _ _ _ _ _ (heap_setCell_same _ _ _ _ _ _ h)))
theorem below4 {w w' : World} {g : Nat} (h : Below w.heap.size w w') (hg : w.heap.size ≤ g) (a' b' c' d' : Value) : Below w.heap.size w ((((w'.setCell ⟨g, 0, none⟩ a').setCell ⟨g, 1, none⟩ b').setCell ⟨g, 2, none⟩ c').setCell ⟨g, 3, none⟩ d') :=
  (((h.setCell (p := ⟨g, 0, none⟩) hg _).setCell (p := ⟨g, 1, none⟩) hg _).setCell (p := ⟨g, 2, none⟩) hg _).setCell (p := ⟨g, 3, none⟩) hg _
set_option maxHeartbeats 8000000 in
set_option maxRecDepth 100000 in
theorem run_any (m : Image) (vw vk vd : Value) (input : List UInt8) (fuel : Int) (w : World) (h : ImgR w m vw vk vd) (hsm : SmI m) (hf : inR fuel) (hF : FormsAt w) :
    Calls Tryd.prog 20 #[.agg #[vw, vk, vd, .int .i64 m.entry], .string ⟨input.toArray⟩, .int .i64 fuel] w fun e w' =>
      e = .returned (.tuple #[outV (runP ar hs m input fuel).1, .int .i64 (runP ar hs m input fuel).2]) ∧ Below w.heap.size w w' := by
  have HMB := Lib.hid (fun (W : World) (hb : Below w.heap.size w W) => mayBe_prog W m vw vk vd (h.below hb) hsm)
  obtain ⟨wp, wc, rfl⟩ := SlR.form h.words
  obtain ⟨kp, kc, rfl⟩ := SlR.form h.kinds
  obtain ⟨dp, dc, rfl⟩ := SlR.form h.data
  have HB0 := Lib.hid (((below_one w (.cells #[.slice wp m.words.length wc, .slice kp m.kinds.length kc, .slice dp m.data.length dc, .int .i64 m.entry] 48)).alloc (by simp) (.cells #[.int .i64 0, .int .u32 0, .string ⟨#[]⟩, .int .i64 0] 51)))
  have HO := Lib.hid (show ((w.alloc (.cells #[.slice wp m.words.length wc, .slice kp m.kinds.length kc, .slice dp m.data.length dc, .int .i64 m.entry] 48)).alloc (.cells #[.int .i64 0, .int .u32 0, .string ⟨#[]⟩, .int .i64 0] 51)).heap[w.heap.size + 1]? = some (.cells #[.int .i64 0, .int .u32 0, .string ⟨#[]⟩, .int .i64 0] 51 (0, 0)) from by
    have := heap_alloc_new (w.alloc (.cells #[.slice wp m.words.length wc, .slice kp m.kinds.length kc, .slice dp m.data.length dc, .int .i64 m.entry] 48)) (.cells #[.int .i64 0, .int .u32 0, .string ⟨#[]⟩, .int .i64 0] 51)
    rwa [World.size_alloc] at this)
  have HI := Lib.hid (show ((w.alloc (.cells #[.slice wp m.words.length wc, .slice kp m.kinds.length kc, .slice dp m.data.length dc, .int .i64 m.entry] 48)).alloc (.cells #[.int .i64 0, .int .u32 0, .string ⟨#[]⟩, .int .i64 0] 51)).heap[w.heap.size]? = some (.cells #[.slice wp m.words.length wc, .slice kp m.kinds.length kc, .slice dp m.data.length dc, .int .i64 m.entry] 48 (0, 0)) from
    (Below.heap_alloc _ _ _ (by simp)).trans (heap_alloc_new w _))
  cases hM : mayI m with
  | false =>
    have hr : runP ar hs m input fuel = (noOut, 1) := by unfold runP; rw [hM]; rfl
    rw [hr]
    rw [hM] at HMB
    clear h hF hf hsm hr
    generalize m.words.length = n at *
    generalize m.kinds.length = kn at *
    generalize m.data.length = dn at *
    go_enter Tryd.func20, Tryd.ntmps20
    go_wp2_with (go_at_call 41; refine (HMB.out _ HB0.out).mono ?_; rintro e w1 ⟨rfl, hb⟩; have HO1 := Lib.hid ((hb.block (w.heap.size + 1) (by simp)).trans HO.out); obtain ⟨⟨x0, x1, x2, x3⟩, y0, y1, y2, y3⟩ := fourE HO1.out; have HB1 := Lib.hid (bt HB0.out hb); clear hb)
    refine bodyPost_ret (v := .tuple #[outV noOut, .int .i64 1]) ?_ rfl ⟨rfl, ?_⟩
    · obtain ⟨⟨e0, e1, e2, e3⟩, _⟩ := fourE (put4 HO1.out (.int .i64 0) (.int .u32 0) (.string ⟨#[]⟩) (.int .i64 0))
      simp [results, Tryd.results20, go_sem, noOut, e0, e1, e2, e3]
    · exact below4 HB1.out (by omega) _ _ _ _
  | true =>
    rw [hM] at HMB
    by_cases hin : input.length ≤ 10000
    · by_cases hf0 : fuel < 0
      · have hr : runP ar hs m input fuel = (noOut, 1) := by unfold runP; rw [hM, if_pos rfl, if_pos hin, if_neg (by omega)]
        rw [hr]
        have q1 : decide ((10000 : Int) < input.length) = false := decide_eq_false (by omega)
        have q2 : decide (fuel < 0) = true := decide_eq_true hf0
        clear h hF hf hsm hr hin hf0
        generalize m.words.length = n at *
        generalize m.kinds.length = kn at *
        generalize m.data.length = dn at *
        go_enter Tryd.func20, Tryd.ntmps20
        go_wp2_with (go_at_call 41; refine (HMB.out _ HB0.out).mono ?_; rintro e w1 ⟨rfl, hb⟩; have HO1 := Lib.hid ((hb.block (w.heap.size + 1) (by simp)).trans HO.out); obtain ⟨⟨x0, x1, x2, x3⟩, y0, y1, y2, y3⟩ := fourE HO1.out; have HB1 := Lib.hid (bt HB0.out hb); clear hb)
        refine bodyPost_ret (v := .tuple #[outV noOut, .int .i64 1]) ?_ rfl ⟨rfl, ?_⟩
        · obtain ⟨⟨e0, e1, e2, e3⟩, _⟩ := fourE (put4 HO1.out (.int .i64 0) (.int .u32 0) (.string ⟨#[]⟩) (.int .i64 0))
          simp [results, Tryd.results20, go_sem, noOut, e0, e1, e2, e3]
        · exact below4 HB1.out (by omega) _ _ _ _
      · by_cases hf1 : 1073741824 < fuel
        · have hr : runP ar hs m input fuel = (noOut, 1) := by unfold runP; rw [hM, if_pos rfl, if_pos hin, if_neg (by omega)]
          rw [hr]
          have q1 : decide ((10000 : Int) < input.length) = false := decide_eq_false (by omega)
          have q2 : decide (fuel < 0) = false := decide_eq_false hf0
          have q3 : decide ((1073741824 : Int) < fuel) = true := decide_eq_true hf1
          clear h hF hf hsm hr hin hf0 hf1
          generalize m.words.length = n at *
          generalize m.kinds.length = kn at *
          generalize m.data.length = dn at *
          go_enter Tryd.func20, Tryd.ntmps20
          go_wp2_with (go_at_call 41; refine (HMB.out _ HB0.out).mono ?_; rintro e w1 ⟨rfl, hb⟩; have HO1 := Lib.hid ((hb.block (w.heap.size + 1) (by simp)).trans HO.out); obtain ⟨⟨x0, x1, x2, x3⟩, y0, y1, y2, y3⟩ := fourE HO1.out; have HB1 := Lib.hid (bt HB0.out hb); clear hb)
          refine bodyPost_ret (v := .tuple #[outV noOut, .int .i64 1]) ?_ rfl ⟨rfl, ?_⟩
          · obtain ⟨⟨e0, e1, e2, e3⟩, _⟩ := fourE (put4 HO1.out (.int .i64 0) (.int .u32 0) (.string ⟨#[]⟩) (.int .i64 0))
            simp [results, Tryd.results20, go_sem, noOut, e0, e1, e2, e3]
          · exact below4 HB1.out (by omega) _ _ _ _
        · obtain ⟨f, rfl⟩ := Int.eq_ofNat_of_zero_le (show 0 ≤ fuel by omega)
          have hS : mayS m = true := by
            rw [mayI_eq] at hM
            cases hq : mayS m with
            | true => rfl
            | false => rw [hq] at hM; cases hM
          obtain ⟨n1, n2, n3, n4, n5, n6⟩ := of_decide_eq_true hS
          have hwW : ∀ v ∈ m.words, isW v := fun v hv => ⟨(hsm.words v hv).1, by have := (hsm.words v hv).2; omega⟩
          have hdW : ∀ v ∈ m.data, isW v := fun v hv => ⟨(hsm.data v hv).1, by have := (hsm.data v hv).2; omega⟩
          obtain ⟨E, hE⟩ : ∃ E : Env, E = ⟨m.words, input, ar, hs⟩ := ⟨_, rfl⟩
          have hEw : E.words = m.words := by rw [hE]
          have hEi : E.input = input := by rw [hE]
          have hEok : EnvOk E := ⟨by rw [hEw]; exact hwW, by rw [hEw]; exact n2, by rw [hEi]; exact hin, fun k a b v h => by rw [hE] at h; exact ar_isW k a b v h⟩
          have hr : runP ar hs m input f = (outOf (runN E f (start E m.data m.entry)), 0) := by unfold runP; rw [hM, if_pos rfl, if_pos hin, if_pos ⟨by omega, by omega⟩, hE, Int.toNat_natCast]
          rw [hr]
          have HST := Lib.hid (fun (W : World) (hb : Below w.heap.size w W) => start_prog W E (.slice kp m.kinds.length kc) (.slice wp m.words.length wc) (.slice dp m.data.length dc) m.data m.entry (by rw [hEw]; exact (h.below hb).words) (h.below hb).data (by rw [hEw]; exact ⟨n1, n2⟩) n4 (by rw [hEw]; exact hwW) (hF.below hb))
          rw [hEi] at HST
          have hinv := start_inv E m.data m.entry n4 hdW ⟨n5, by omega⟩
          have hfi : ((f : Nat) : Int) ≤ 1073741824 := by omega
          have HRU := Lib.hid (fun (x : Fz) (W W2 : World) (pg : Nat → Option Nat) (hst : St x E wk0 W W2 (start E m.data m.entry) (.pointer none) (.slice none 0 0) (.slice none 0 0) pg) => run_prog does_do hst rfl rfl rfl rfl hinv hEok (by rw [hE]) (by rw [hE]) worksL_at f hfi)
          have hob : (runN E f (start E m.data m.entry)).bytes.length ≤ 1073741824 := by
            obtain ⟨_, h2, _, t, h3, h4⟩ := runN_steps (E := E) f (start E m.data m.entry)
            have e1 : (start E m.data m.entry).bytes = [] := rfl
            have e2 : (start E m.data m.entry).steps = 0 := rfl
            rw [h3, e1, List.nil_append]
            omega
          have HSR := Lib.hid (fun (x : Fz) (W W2 : World) (m1 : M) (ad buf back : Value) (pg : Nat → Option Nat) (hst : St x E wk0 W W2 m1 ad buf back pg) (hl : m1.bytes.length ≤ 1073741824) => string_st hst hl)
          have HOB := Lib.hid hob
          have q1 : decide ((10000 : Int) < input.length) = false := decide_eq_false (by omega)
          have q2 : decide ((f : Int) < 0) = false := decide_eq_false hf0
          have q3 : decide ((1073741824 : Int) < f) = false := decide_eq_false hf1
          clear h hF hf hsm hr hin hf0 hf1 hS n1 n2 n3 n4 n5 n6 hwW hdW hE hEw hEi hEok hinv hfi hob
          obtain ⟨mo, hmo⟩ : ∃ mo, mo = runN E f (start E m.data m.entry) := ⟨_, rfl⟩
          rw [← hmo] at HOB ⊢
          have HMO := Lib.hid hmo
          clear hmo
          generalize m.words.length = n at *
          generalize m.kinds.length = kn at *
          generalize m.data.length = dn at *
          generalize (f : Int) = fi at *
          go_enter Tryd.func20, Tryd.ntmps20
          go_upto_region 9 with (first
            | (go_at_call 41; refine (HMB.out _ HB0.out).mono ?_; rintro e w1 ⟨rfl, hb⟩; have HO1 := Lib.hid ((hb.block (w.heap.size + 1) (by simp)).trans HO.out); have hi1 := (hb.block w.heap.size (by simp; omega)).trans HI.out; obtain ⟨⟨u0, u1, u2, u3⟩, t0, t1, t2, t3⟩ := fourE HO1.out; obtain ⟨⟨i0, i1, i2, i3⟩, _⟩ := fourE hi1; have HB1 := Lib.hid (bt HB0.out hb); clear hb hi1)
            | (go_at_call 42; refine (HST.out _ HB1.out).mono ?_; rintro e w2 ⟨x, pg, rfl, hz, hst⟩; have HS2 := Lib.hid hst; have HZ := Lib.hid hz; clear hst hz)
            | (go_at_call 43; refine (HRU.out x w1 _ _ HS2.out).mono ?_; rintro e w3 ⟨rfl, x2, hbm, hz2, m1, ad1, buf1, back1, pg1, hst, hstop, hout⟩; have HS3 := Lib.hid hst; have HQ := Lib.hid (And.intro hbm (And.intro hz2 (And.intro hstop hout))); clear hst hbm hz2 hstop hout))
          obtain ⟨hbm, hz2, hstop, hout⟩ := HQ.out
          rw [← HMO.out] at hout
          obtain ⟨c21, f21⟩ := HS3.out.cell (k := 21) (by decide)
          change _ = some (Value.int .i64 m1.stop) at c21
          obtain ⟨c22, f22⟩ := HS3.out.cell (k := 22) (by decide)
          change _ = some (Value.int .u32 m1.code) at c22
          obtain ⟨c20, f20⟩ := HS3.out.cell (k := 20) (by decide)
          change _ = some (Value.int .i64 m1.steps) at c20
          rw [hbm] at c20 c21 c22
          have hlo := lt_of_block HO1.out
          have hml : m1.bytes.length ≤ 1073741824 := by rw [← outOf_bytes, hout, outOf_bytes]; exact HOB.out
          have HSG := Lib.hid (fun (W : World) (hW : St x2 E wk0 w1 W m1 ad1 buf1 back1 pg1) => HSR.out x2 w1 W m1 ad1 buf1 back1 pg1 hW hml)
          rw [hbm, hz2, HZ.out] at HSG
          have hb3 := HS3.out.below
          rw [hz2, HZ.out] at hb3
          obtain ⟨⟨a0, a1, a2, a3⟩, b0, b1, b2, b3⟩ := fourE ((hb3.block _ hlo).trans HO1.out)
          have HKC := Lib.hid (fun (W : World) (hm4 : W.heap[x.bm]? = w3.heap[x.bm]?) => (show W.cell? ⟨x.bm, 21, none⟩ = some (.int .i64 m1.stop) ∧ W.cell? ⟨x.bm, 22, none⟩ = some (.int .u32 m1.code) ∧ W.cell? ⟨x.bm, 20, none⟩ = some (.int .i64 m1.steps) from
            ⟨(World.cell?_of_block (w := w3) (a := ⟨x.bm, 21, none⟩) hm4).trans c21, (World.cell?_of_block (w := w3) (a := ⟨x.bm, 22, none⟩) hm4).trans c22, (World.cell?_of_block (w := w3) (a := ⟨x.bm, 20, none⟩) hm4).trans c20⟩))
          have HEQ := Lib.hid (hout.symm.trans (outOf_stop hstop))
          have hzb := HS3.out.ok.zb
          rw [hbm, hz2, HZ.out] at hzb
          have hne1 : ¬ (x.bm = w.heap.size + 1) := by omega
          have hne2 : ¬ (w.heap.size + 1 = x.bm) := by omega
          have HLO := Lib.hid hlo
          clear hzb
          clear hbm hz2 hstop hout f20 f21 f22 hml hb3 u0 u1 u2 u3 t0 t1 t2 t3 i0 i1 i2 i3 hlo q1 q2 q3
          go_region_held3 (fun w' => w'.cell? ⟨x.bm, 21, none⟩ = some (.int .i64 m1.stop) ∧ w'.cell? ⟨x.bm, 22, none⟩ = some (.int .u32 m1.code) ∧ w'.cell? ⟨x.bm, 20, none⟩ = some (.int .i64 m1.steps)) (first | with_reducible exact ⟨g21, g22, g20⟩ | with_reducible exact ⟨c21, c22, c20⟩ | go_keep) (first
            | (go_at_call 44; refine (HSG.out _ HS3.out.drew).mono ?_; rintro e w4 ⟨rfl, hb4, hm4⟩; obtain ⟨g21, g22, g20⟩ := HKC.out w4 hm4; have HO4 := Lib.hid ((hb4.block _ HLO.out).trans HO1.out); obtain ⟨⟨u0, u1, u2, u3⟩, t0, t1, t2, t3⟩ := fourE HO4.out; have HB4 := Lib.hid (bt HB1.out hb4); clear hb4 hm4))
          all_goals
            go_wp2
            refine bodyPost_ret (v := .tuple #[.agg #[.int .i64 m1.stop, .int .u32 m1.code, .string ⟨m1.bytes.toArray⟩, .int .i64 m1.steps], .int .i64 0]) ?_ rfl ⟨by rw [HEQ.out], ?_⟩
            · obtain ⟨⟨e0, e1, e2, e3⟩, _⟩ := fourE (put4 HO4.out (.int .i64 m1.stop) (.int .u32 m1.code) (.string ⟨m1.bytes.toArray⟩) (.int .i64 m1.steps))
              simp [results, Tryd.results20, go_sem, e0, e1, e2, e3]
            · exact below4 HB4.out (by omega) _ _ _ _
    · have hr : runP ar hs m input fuel = (noOut, 2) := by unfold runP; rw [hM, if_pos rfl, if_neg hin]
      rw [hr]
      have q1 : decide ((10000 : Int) < input.length) = true := decide_eq_true (by omega)
      clear h hF hf hsm hr hin
      generalize m.words.length = n at *
      generalize m.kinds.length = kn at *
      generalize m.data.length = dn at *
      go_enter Tryd.func20, Tryd.ntmps20
      go_wp2_with (go_at_call 41; refine (HMB.out _ HB0.out).mono ?_; rintro e w1 ⟨rfl, hb⟩; have HO1 := Lib.hid ((hb.block (w.heap.size + 1) (by simp)).trans HO.out); obtain ⟨⟨x0, x1, x2, x3⟩, y0, y1, y2, y3⟩ := fourE HO1.out; have HB1 := Lib.hid (bt HB0.out hb); clear hb)
      refine bodyPost_ret (v := .tuple #[outV noOut, .int .i64 2]) ?_ rfl ⟨rfl, ?_⟩
      · obtain ⟨⟨e0, e1, e2, e3⟩, _⟩ := fourE (put4 HO1.out (.int .i64 0) (.int .u32 0) (.string ⟨#[]⟩) (.int .i64 0))
        simp [results, Tryd.results20, go_sem, noOut, e0, e1, e2, e3]
      · exact below4 HB1.out (by omega) _ _ _ _
end Go.Proofs.YtopceggmdieppaaDoor.Emu
namespace Go.Proofs.YtopceggmdieppaaDoor.Emu
open Go.RowKit Go.Proofs.YtopceggmdieppaaDoor.Enc Go.Proofs.YtopceggmdieppaaDoor.Graph
theorem does : DoesRun ar hs := ⟨fun m vw vk vd input fuel w h hsm hf hF => run_any m vw vk vd input fuel w h hsm hf hF⟩
end Go.Proofs.YtopceggmdieppaaDoor.Emu
