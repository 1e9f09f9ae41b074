/- The law EmuAny, where the program's machine does what the plain one does. -/
import Derived.Test.YtjbiikbmbacjkaaDoorDk
namespace Go.Proofs.YtjbiikbmbacjkaaDoor.Emu
open Go.RowKit Go.Proofs.YtjbiikbmbacjkaaDoor.Enc Go.Proofs.YtjbiikbmbacjkaaDoor.Graph
set_option maxHeartbeats 16000000 in
set_option maxRecDepth 100000 in
theorem any_no {ar : Int → Int → Int → Option Int} {hs : Int → Int → Int → Bool} (D : DoesRun ar hs) (nw nd : Nat) (pw pd : Option Addr) (cw cd : Nat) (input : ByteArray) (entry fuel : Int) (w : World) (hi : inR fuel) (hF : FormsAt w)
    (hn : nw ≤ 9223372036854775807) (hd : nd ≤ 9223372036854775807) (h : nw = 0 ∨ 65536 < nw ∨ 524288 < nd ∨ 10000 < input.size) :
    Calls Tryd.prog 6 #[.slice pw nw cw, .slice pd nd cd, .int .i64 entry, .string input, .int .i64 fuel] w (Is (.bool true) w) := by
  have HL := Lib.hid (fun w hF => live_any D w hF)
  have HP1 := Lib.hid (fun w => pick_any fuel 30000 w hi (by omega))
  clear D
  have n1 : (nw : Int) ≤ 9223372036854775807 := by omega
  have n2 : (nd : Int) ≤ 9223372036854775807 := by omega
  rcases Nat.eq_zero_or_pos nw with h0 | h0
  · subst h0
    clear n1 hn h
    go_enter Tryd.func6, Tryd.ntmps6
    go_wp2_with (first
      | (go_at_call 16; (with_reducible refine (HP1.out _).mono ?_); rintro e w ⟨rfl, rfl⟩)
      | (go_at_call 14; refine (HL.out _ hF).mono ?_; rintro e w9 ⟨rfl, hb9⟩; have H9 := Lib.hid hb9; clear hb9))
    go_ret
    exact ⟨rfl, H9.out⟩
  have g0 : ((nw : Int) == 0) = false := by simp; omega
  by_cases h1 : 65536 < nw
  · have z1 : (65536 : Int) < nw := by omega
    clear h1 h h0
    go_enter Tryd.func6, Tryd.ntmps6
    go_wp2_with (first
      | (go_at_call 16; (with_reducible refine (HP1.out _).mono ?_); rintro e w ⟨rfl, rfl⟩)
      | (go_at_call 14; refine (HL.out _ hF).mono ?_; rintro e w9 ⟨rfl, hb9⟩; have H9 := Lib.hid hb9; clear hb9))
    go_ret
    exact ⟨rfl, H9.out⟩
  have z1 : (nw : Int) ≤ 65536 := by omega
  by_cases h2 : 524288 < nd
  · have z2 : (524288 : Int) < nd := by omega
    clear h1 h2 h h0
    go_enter Tryd.func6, Tryd.ntmps6
    go_wp2_with (first
      | (go_at_call 16; (with_reducible refine (HP1.out _).mono ?_); rintro e w ⟨rfl, rfl⟩)
      | (go_at_call 14; refine (HL.out _ hF).mono ?_; rintro e w9 ⟨rfl, hb9⟩; have H9 := Lib.hid hb9; clear hb9))
    go_ret
    exact ⟨rfl, H9.out⟩
  have z2 : (nd : Int) ≤ 524288 := by omega
  have h3 : 10000 < input.size := by omega
  have z3 : (10000 : Int) < input.size := by omega
  clear h1 h2 h3 h h0
  go_enter Tryd.func6, Tryd.ntmps6
  go_wp2_with (first
    | (go_at_call 16; (with_reducible refine (HP1.out _).mono ?_); rintro e w ⟨rfl, rfl⟩)
    | (go_at_call 14; refine (HL.out _ hF).mono ?_; rintro e w9 ⟨rfl, hb9⟩; have H9 := Lib.hid hb9; clear hb9))
  go_ret
  exact ⟨rfl, H9.out⟩
theorem rowIs_below {w w' : World} {b : Nat} {t : TypeId} {n : Nat} {f : Nat → Value} (h : w.rowIs b t n f) (hx : Below w.heap.size w w') : w'.rowIs b t n f := h.of_block (hx.block b h.lt)
/-- The image that the law makes, before its kinds are set: two new blocks. -/
structure MadeI (w : World) (nw : Nat) (vw vd : Value) (E : Int) (k bi bk : Nat) (wq : World) : Prop where
  below : Below w.heap.size w wq
  img : wq.heap[bi]? = some (.cells #[vw, .slice (some ⟨bk, 0, none⟩) nw nw, vd, .int .i64 E] 25 (0, 0))
  row : wq.rowIs bk 3 nw (fun j => if j < k then iv 1 else iv 0)
  ne : bi ≠ bk
  lo : w.heap.size ≤ bi ∧ w.heap.size ≤ bk
theorem MadeI.step {w wq : World} {nw : Nat} {vw vd : Value} {E : Int} {k bi bk : Nat} (h : MadeI w nw vw vd E k bi bk wq) : MadeI w nw vw vd E (k + 1) bi bk (wq.setCell ⟨bk, k, none⟩ (.int .i64 1)) :=
  ⟨h.below.setCell h.lo.2 _, set_other h.img h.ne, (h.row.set k (.int .i64 1)).congr fun j hj => by
    by_cases e : j = k
    · subst e; simp [iv]
    · simp only [e, if_false]
      by_cases h2 : j < k
      · rw [if_pos h2, if_pos (by omega)]
      · rw [if_neg h2, if_neg (by omega)], h.ne, h.lo⟩
theorem madeI_1 (w : World) (nw : Nat) (vw vd : Value) (E : Int) : MadeI w nw vw vd E 0 (w.heap.size + 1) w.heap.size (((w.alloc (.cells (madeCells #[.int .i64 0] nw) 3)).alloc (.cells #[vw, .slice (some ⟨w.heap.size, 0, none⟩) nw nw, vd, .int .i64 E] 25)).drew) := by
  have h1 := World.rowIs_made w (.int .i64 0) nw 3
  refine ⟨((below_one w _).alloc (by simp) _).drew, ?_, (rowIs_below h1 (below_one _ _)).congr fun j _ => by rw [if_neg (Nat.not_lt_zero _)]; rfl, by omega, by omega, Nat.le_refl _⟩
  have := heap_alloc_new (w.alloc (.cells (madeCells #[.int .i64 0] nw) 3)) (.cells #[vw, .slice (some ⟨w.heap.size, 0, none⟩) nw nw, vd, .int .i64 E] 25)
  rw [World.size_alloc] at this
  exact this
theorem madeI_2 (w : World) (nw : Nat) (vw vd : Value) (E : Int) : MadeI w nw vw vd E 0 w.heap.size (w.heap.size + 1) (((w.alloc (.cells #[vw, .slice (some ⟨w.heap.size + 1, 0, none⟩) nw nw, vd, .int .i64 E] 25)).alloc (.cells (madeCells #[.int .i64 0] nw) 3)).drew) := by
  have h1 := World.rowIs_made (w.alloc (.cells #[vw, .slice (some ⟨w.heap.size + 1, 0, none⟩) nw nw, vd, .int .i64 E] 25)) (.int .i64 0) nw 3
  rw [World.size_alloc] at h1
  refine ⟨((below_one w _).alloc (by simp) _).drew, ?_, (World.rowIs.congr (w := ((w.alloc (.cells #[vw, .slice (some ⟨w.heap.size + 1, 0, none⟩) nw nw, vd, .int .i64 E] 25)).alloc (.cells (madeCells #[.int .i64 0] nw) 3))) h1 fun j _ => by rw [if_neg (Nat.not_lt_zero _)]; rfl), by omega, Nat.le_refl _, by omega⟩
  exact (heap_alloc_old _ _ (by simp)).trans (heap_alloc_new w _)
theorem made_img {w wq : World} {words data : List Int} {vw vd : Value} {E : Int} {bi bk nw : Nat} (h : MadeI w nw vw vd E nw bi bk wq) (_hn : nw = words.length) (h0 : 0 < nw) (h9 : nw ≤ 9223372036854775807) (hw : WordsR w vw words) (hd : WordsR w vd data) :
    ImgR wq ⟨words, List.replicate nw 1, data, E⟩ vw (.slice (some ⟨bk, 0, none⟩) nw nw) vd := by
  refine ⟨hw.below h.below, .inr ⟨bk, 0, nw, by simp, by simpa using h0, by simpa using h9, h.row.lt, fun i hi x hx => ?_⟩, hd.below h.below⟩
  simp only [List.length_replicate] at hi
  simp only [List.getElem?_replicate, hi, if_true, Option.some.injEq] at hx
  subst hx
  rw [Nat.zero_add, Nat.mul_one, h.row.cell hi, if_pos hi]
  rfl
theorem run_any_ok (ar : Int → Int → Int → Option Int) (hs : Int → Int → Int → Bool) {words data : List Int} {E : Int} {input : List UInt8} {F : Int} (h0 : 0 < words.length) (h1 : words.length ≤ 65536) (h2 : data.length ≤ 524288) (h3 : input.length ≤ 10000) (h4 : 0 ≤ E ∧ E < words.length) (h5 : 0 ≤ F ∧ F < 30000) :
    ∃ o : Out, runP ar hs ⟨words, List.replicate words.length 1, data, E⟩ input F = (o, 0) ∧ (o.steps : Int) ≤ F ∧ o.bytes.length ≤ o.steps ∧ ((o.stop = 3 ∧ (o.steps : Int) = F ∧ o.code = 0) ∨ o.stop = 1 ∨ (o.stop = 2 ∧ 0 ≤ o.code ∧ o.code ≤ 255)) := by
  have hm : mayI ⟨words, List.replicate words.length 1, data, E⟩ = true := may_mk ⟨by simp only; omega, h1, by simp, h2, h4, fun k hk => by have := List.eq_of_mem_replicate hk; omega⟩
  obtain ⟨a1, a2, a3⟩ := any_facts (E := ⟨words, input, ar, hs⟩) (m := start ⟨words, input, ar, hs⟩ data E) rfl rfl rfl F.toNat
  refine ⟨_, by unfold runP; rw [if_pos hm, if_pos h3, if_pos (by omega)], ?_, a2, ?_⟩
  · have := a1; omega
  · rcases a3 with ⟨b1, b2, b3⟩ | h | h
    · exact .inl ⟨b1, by rw [b2]; omega, b3⟩
    · exact .inr (.inl h)
    · exact .inr (.inr h)
theorem info_intM : (Tryd.prog.info? 3).map (fun i => (i.zero, i.size, i.bytes)) = some (some (.int .i64 0), 1, 8) := by kernel_rfl
theorem run_make_int (n : Nat) (h : n ≤ 1000000000000) (w : World) : (Instr.makeSlice 23 (.int .i64 (n : Int)) (.int .i64 (n : Int))).run Tryd.prog w = .ok (.slice (some ⟨w.heap.size, 0, none⟩) n n) (w.alloc (.cells (madeCells #[.int .i64 0] n) 3)) := by
  obtain ⟨i, h1, h2, h3, h4⟩ := info_parts info_intM
  exact run_make_row 23 3 i (.int .i64 0) Tryd.underlying23 h1 h2 h3 rfl _ _ n (by rw [h4]; omega) (by omega) w
set_option maxHeartbeats 16000000 in
set_option maxRecDepth 100000 in
theorem any_do {ar : Int → Int → Int → Option Int} {hs : Int → Int → Int → Bool} (D : DoesRun ar hs) (words data : List Int) (vw vd : Value) (input : List UInt8) (entry fuel : Int) (w : World) (hw : WordsR w vw words) (hd : WordsR w vd data)
    (h1 : ∀ x ∈ words, 0 ≤ x ∧ x ≤ 4294967295) (h2 : ∀ x ∈ data, 0 ≤ x ∧ x ≤ 4294967295) (he : inR entry) (hf : inR fuel) (hF : FormsAt w) (n0 : 0 < words.length) (n1 : words.length ≤ 65536) (n2 : data.length ≤ 524288) (n3 : input.length ≤ 10000) :
    Calls Tryd.prog 6 #[vw, vd, .int .i64 entry, .string ⟨input.toArray⟩, .int .i64 fuel] w (Is (.bool true) w) := by
  have HL := Lib.hid (fun w hF => live_any D w hF)
  have r1 := pickP_range fuel (n := 30000) (by omega)
  have HP1 := Lib.hid (fun w => pick_any fuel 30000 w hf (by omega))
  obtain ⟨F, hFF⟩ : ∃ F, F = pickP fuel 30000 := ⟨_, rfl⟩
  rw [← hFF] at r1 HP1
  have r2 := pickP_range entry (n := (words.length : Int)) (by omega)
  have HP2 := Lib.hid (fun w => pick_any entry (words.length : Int) w he (by omega))
  obtain ⟨E, hE⟩ : ∃ E, E = pickP entry (words.length : Int) := ⟨_, rfl⟩
  rw [← hE] at r2 HP2
  obtain ⟨o, ho, o1, o2, o3⟩ := run_any_ok ar hs n0 n1 n2 n3 r2 r1
  have hsm : SmI ⟨words, List.replicate words.length 1, data, E⟩ := ⟨h1, h2, by simp only; omega, by simp only; omega, by simp; omega, by simp only; omega⟩
  have HR := Lib.hid (fun vw vk vd (wx : World) hi hF => D.at_ ho (vw := vw) (vk := vk) (vd := vd) wx hi hsm (by unfold inR; omega) hF)
  have HIM := Lib.hid (fun (wq : World) (bi bk : Nat) (h : MadeI w words.length vw vd E words.length bi bk wq) => made_img h rfl n0 (by omega) hw hd)
  have HMK := Lib.hid (run_make_int words.length (by omega))
  obtain ⟨pw, cw, rfl⟩ := hw.form
  obtain ⟨pd, cd, rfl⟩ := hd.form
  obtain ⟨os, oc, obs, ot⟩ := o
  simp only at HR o1 o2 o3
  obtain ⟨nw, hnw⟩ : ∃ n, n = words.length := ⟨_, rfl⟩
  obtain ⟨nd, hnd⟩ : ∃ n, n = data.length := ⟨_, rfl⟩
  rw [← hnw] at n0 n1 HP2 HR HIM HMK r2 ⊢
  rw [← hnd] at n2 HIM ⊢
  have hin : (⟨input.toArray⟩ : ByteArray).size = input.length := by show input.toArray.size = _; simp
  have hout : (⟨obs.toArray⟩ : ByteArray).size = obs.length := by show obs.toArray.size = _; simp
  generalize (⟨input.toArray⟩ : ByteArray) = ib at hin HR ⊢
  generalize (⟨obs.toArray⟩ : ByteArray) = ob at hout HR
  have z0 : (ib.size : Int) ≤ 10000 := by omega
  have z1 : (nw : Int) ≤ 65536 := by omega
  have z2 : (nd : Int) ≤ 524288 := by omega
  have g0 : ((nw : Int) == 0) = false := by simp; omega
  have z4 : (ob.size : Int) ≤ ot := by omega
  have hR2 := r2
  have z5 : (0 : Int) ≤ ot := by omega
  clear D hsm ho he hf h1 h2 hw hd hnw hnd hFF hE hin hout n3 o2
  have HO3 := Lib.hid o3
  clear o3
  go_enter Tryd.func6, Tryd.ntmps6
  go_upto_region 4 with (go_at_call 16; (with_reducible refine (HP1.out _).mono ?_); rintro e w ⟨rfl, rfl⟩)
  go_cut [11] from 36 to 45 (fun v wq => ∃ bi bk, v = .pointer (some ⟨bi, 0, none⟩) ∧ Hid (MadeI w nw (.slice pw nw cw) (.slice pd nd cd) E 0 bi bk wq))
  case first =>
    have hmk := fun w => HMK.out w
    go_region_with (go_at_call 16; (with_reducible refine (HP2.out _).mono ?_); rintro e w ⟨rfl, rfl⟩)
    all_goals
      go_wp2
      go_meet
      first
        | exact ⟨_, _, rfl, Lib.hid (madeI_1 _ _ _ _ _)⟩
        | exact ⟨_, _, rfl, Lib.hid (madeI_2 _ _ _ _ _)⟩
  case rest =>
    obtain ⟨bi, bk, rfl, HM⟩ := hcut
    go_wp2
    go_loopw [12] (fun i wr => ∃ k : Nat, k ≤ nw ∧ i = .int .i64 k ∧ Hid (MadeI w nw (.slice pw nw cw) (.slice pd nd cd) E k bi bk wr)) (fun i _ => nw - (intOf i).toNat)
    case atStart => exact ⟨0, Nat.zero_le _, rfl, HM⟩
    case round =>
      clear HM
      obtain ⟨k, hk, rfl, HM⟩ := hrel
      obtain ⟨j0, j1, j2, j3, jf0, jf1, jf2, jf3, jl⟩ := box4 HM.out.img
      have y0 : (0 : Int) ≤ k := by omega
      by_cases hlt : k < nw
      · have y1 : (k : Int) < nw := by omega
        have e0 := HM.out.row.cell hlt
        have e1 := HM.out.row.frozen k
        rw [if_neg (by omega)] at e0
        unfold iv at e0
        go_wp2
        exact ⟨⟨k + 1, by omega, by go_num, Lib.hid HM.out.step⟩, by simp [intOf]; omega⟩
      · have y1 : decide (k < nw) = false := decide_eq_false hlt
        have hkn : k = nw := by omega
        subst hkn
        have kfr := hF.below HM.out.below
        have HIR := Lib.hid (HIM.out _ _ _ HM.out)
        clear hlt hk
        rcases HO3.out with ⟨rfl, hs3, rfl⟩ | rfl | ⟨rfl, c0, c1⟩
        all_goals
          go_wp2_with (first
            | (go_at_call 12; refine (HR.out _ _ _ _ HIR.out kfr).mono ?_; rintro e w7 ⟨rfl, hb7⟩; have H7 := Lib.hid hb7; have kf7 := kfr.below hb7; clear hb7)
            | (go_at_call 14; refine (HL.out _ (kf7.alloc _)).mono ?_; rintro e w9 ⟨rfl, hb9⟩; have H9 := Lib.hid hb9; have d0 := hb9.cell (p := ⟨w7.heap.size, 0, none⟩) (by simp); have d1 := hb9.cell (p := ⟨w7.heap.size, 1, none⟩) (by simp); have d2 := hb9.cell (p := ⟨w7.heap.size, 2, none⟩) (by simp); have d3 := hb9.cell (p := ⟨w7.heap.size, 3, none⟩) (by simp); clear hb9))
          go_ret
          refine ⟨?_, bt HM.out.below (bt H7.out (bt (below_one w7 _) H9.out))⟩
          first
            | rfl
            | (simp; omega)
            | (simp [hs3])
end Go.Proofs.YtjbiikbmbacjkaaDoor.Emu
