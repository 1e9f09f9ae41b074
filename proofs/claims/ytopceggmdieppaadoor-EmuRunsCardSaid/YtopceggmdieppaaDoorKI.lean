/- The document's machine when it begins: its memory made, its box. No condition. -/
import Derived.Test.YtopceggmdieppaaDoorKA
import Derived.Test.YtopceggmdieppaaDoorGC
import Derived.Lib.SliceRun
import Derived.Test.YtopceggmdieppaaDoorUo
import Derived.Test.YtopceggmdieppaaDoorUm
import Derived.Test.YtopceggmdieppaaDoorUh
import Derived.Laws.CopyOwn
import Derived.Deep.RegionLaw
import Derived.Deep.DeepCutAuto
namespace Go.Proofs.YtopceggmdieppaaDoor.Emu
open Go.RowKit Go.Proofs.YtopceggmdieppaaDoor.Enc Go.Proofs.YtopceggmdieppaaDoor.Graph

abbrev zsW : Array Value := madeCells #[.int .u32 0] (524288 * 1)
theorem make_mem (w : World) : (Instr.makeSlice 24 (.int .i64 524288) (.int .i64 524288)).run Tryd.prog w = .ok (.slice (some ⟨w.heap.size, 0, none⟩) 524288 524288) (w.alloc (.cells zsW 37)) := by
  obtain ⟨i, hi, hzz⟩ := Option.map_eq_some_iff.1 info_u32
  simp only [Prod.mk.injEq] at hzz
  obtain ⟨hz, hs, hb⟩ := hzz
  have hb' : (i.bytes : Int) * ((524288 : Nat) : Int) ≤ 281474976710656 := by rw [hb]; omega
  have hr := run_make (P := Tryd.prog) w 24 37 i _ Tryd.underlying24 hi hz .i64 .i64 (524288 : Nat) (524288 : Nat) (by omega) (Int.le_refl _) hb' (by omega)
  simp only [Int.toNat_natCast, hs] at hr
  exact hr
theorem zsW_size : zsW.size = 524288 := size_madeCells _ _
theorem zsW_at (j : Nat) (hj : j < 524288) : zsW[j]? = some (.int .u32 0) := by
  unfold zsW madeCells
  rw [Array.getElem?_map, Array.getElem?_range, if_pos (by omega)]
  show some ((#[.int .u32 0] : Array Value)[j % 1]!) = _
  rw [show j % 1 = 0 by omega]; rfl
abbrev machD (vw : Value) (mb : Nat) (inp : ByteArray) (entry : Int) : Array Value :=
  #[vw, .int .u32 0, .int .u32 0, .int .u32 0, .int .u32 0, .int .u32 0, .int .u32 0, .int .u32 0, .int .u32 0, .int .u32 0, .int .u32 0, .int .u32 0, .int .u32 0, .slice (some ⟨mb, 0, none⟩) 524288 524288, .string inp, .int .i64 0, .slice none 0 0, .int .i64 entry, .int .i64 0, .int .u32 0, .string ⟨#[]⟩, .int .i64 0, .slice none 0 0]
theorem machD_cs (x : Dz) (E : Env) (data : List Int) (entry : Int) : ∀ k, k < 23 → (machD x.vw x.mb ⟨E.input.toArray⟩ entry)[k]? = some (dcell x E (start E data entry) (.slice none 0 0) (.slice none 0 0) k)
  | 0, _ => rfl
  | 1, _ => rfl
  | 2, _ => rfl
  | 3, _ => rfl
  | 4, _ => rfl
  | 5, _ => rfl
  | 6, _ => rfl
  | 7, _ => rfl
  | 8, _ => rfl
  | 9, _ => rfl
  | 10, _ => rfl
  | 11, _ => rfl
  | 12, _ => rfl
  | 13, _ => rfl
  | 14, _ => rfl
  | 15, _ => rfl
  | 16, _ => rfl
  | 17, _ => rfl
  | 18, _ => rfl
  | 19, _ => rfl
  | 20, _ => rfl
  | 21, _ => rfl
  | 22, _ => rfl
  | n + 23, h => absurd h (by omega)
end Go.Proofs.YtopceggmdieppaaDoor.Emu
namespace Go.Proofs.YtopceggmdieppaaDoor.Emu
open Go.RowKit Go.Proofs.YtopceggmdieppaaDoor.Enc Go.Proofs.YtopceggmdieppaaDoor.Graph

theorem inv_step {E : Env} {m : M} (h : Inv m) (hE : EnvOk E) : Inv (stepP E m) := by
  unfold stepP
  by_cases hp : 0 ≤ m.place ∧ m.place < E.words.length
  · rw [wordAt_some hp]
    simp only
    have hl := hE.len
    by_cases he : (decP (E.words.getD m.place.toNat 0)).2 = 0
    · rw [if_pos he]
      cases hs : plainStep E m (decP (E.words.getD m.place.toNat 0)).1 with
      | some m' => exact (inv_plain h hE hs).place ⟨by omega, by omega⟩
      | none => exact inv_goes h hE ⟨by omega, by omega⟩ (within (dec_may he))
    · rw [if_neg he]; exact h.halt _ _
  · rw [wordAt_none hp]; exact h.halt _ _
/-- The bytes put out, as a string. -/
theorem conv_row (w : World) {B : Nat} {buf : Value} {l : List UInt8} (h : w.ownsRow B 5 1 buf l.length (l.map fun b => .int .u8 b.toNat)) : (convert 92 9 buf).run Tryd.prog w = .ok (.string ⟨l.toArray⟩) w := by
  have h' := h
  obtain ⟨_, ⟨rfl, h0⟩ | ⟨g, cap, cur, rfl, _⟩⟩ := h
  · rw [List.eq_nil_of_length_eq_zero h0, run_convert_bytes_string _ 92 9 5 _ _ _ Tryd.underlying92 Tryd.underlying5 Tryd.underlying9]
    rfl
  · exact run_convert_bytes_back (P := Tryd.prog) w 92 9 5 ⟨g, 0, none⟩ cap l Tryd.underlying92 Tryd.underlying5 Tryd.underlying9 (fun j hj => by
      have e1 : (⟨g, 0, none⟩ : Addr).add j = ⟨g, j, none⟩ := by
        cases j <;> simp [Addr.add]
      rw [e1]
      exact (own_at h' (k := j) (by rw [List.getElem?_map, List.getElem?_eq_getElem hj]; rfl)).1)
/-- What lies when the machine begins, ahead of the copy. -/
structure Born (wb : World) (vw : Value) (inp : ByteArray) (entry : Int) (bm mb : Nat) (W : World) : Prop where
  below : Below wb.heap.size wb W
  mem : W.heap[mb]? = some (.cells zsW 37 (0, 0))
  mach : W.heap[bm]? = some (.cells (machD vw mb inp entry) 102 (0, 0))
  lo : wb.heap.size ≤ mb ∧ wb.heap.size ≤ bm ∧ bm ≠ mb
theorem born_at {wb W0 : World} (h : Below wb.heap.size wb W0) (vw : Value) (inp : ByteArray) (entry : Int) : Born wb vw inp entry (W0.heap.size + 1) W0.heap.size ((W0.alloc (.cells zsW 37)).alloc (.cells (machD vw W0.heap.size inp entry) 102)) := by
  have h1 : (W0.alloc (.cells zsW 37)).heap[W0.heap.size]? = some (.cells zsW 37 (0, 0)) := heap_alloc_new W0 _
  have hz := h.size
  refine ⟨bt h (((below_one W0 _).alloc (by simp) _)), (Below.heap_alloc _ _ _ (lt_of_block h1)).trans h1, ?_, hz, by omega, by omega⟩
  have := heap_alloc_new (W0.alloc (.cells zsW 37)) (.cells (machD vw W0.heap.size inp entry) 102)
  rwa [World.size_alloc] at this
theorem Born.drew {wb W : World} {vw : Value} {inp : ByteArray} {entry : Int} {bm mb : Nat} (h : Born wb vw inp entry bm mb W) : Born wb vw inp entry bm mb W.drew := ⟨h.below.drew, h.mem, h.mach, h.lo⟩
def dataV (d : List Int) : List Value := d.map fun v => Value.int .u32 v
theorem mem_fill (d : List Int) (hl : d.length ≤ 524288) : (splice zsW.toList 0 (dataV d)).toArray.size = 524288 ∧ ∀ j, j < 524288 → (splice zsW.toList 0 (dataV d)).toArray[j]? = some (.int .u32 ((memL d).getD j 0)) := by
  have hz : zsW.toList.length = 524288 := zsW_size
  have hd : (dataV d).length = d.length := List.length_map _
  refine ⟨by rw [List.size_toArray, length_splice _ _ _ (by rw [hd, hz]; omega), hz], fun j hj => ?_⟩
  rw [List.getElem?_toArray, memL_getD]
  unfold splice
  rw [List.take_zero, List.nil_append, Nat.zero_add, hd]
  by_cases h : j < d.length
  · rw [List.getElem?_append_left (by omega)]
    unfold dataV
    rw [List.getElem?_map, List.getD_eq_getElem?_getD, List.getElem?_eq_getElem h]; rfl
  · rw [List.getElem?_append_right (by omega), List.getElem?_drop, hd, show d.length + (j - d.length) = j by omega, Array.getElem?_toList, zsW_at j hj, List.getD_eq_getElem?_getD, List.getElem?_eq_none (by omega)]; rfl
theorem Born.sd {wb W W2 : World} {vw : Value} {E : Env} {entry : Int} {bm mb : Nat} {d : List Int} (h : Born wb vw ⟨E.input.toArray⟩ entry bm mb W) (hw : WordsR wb vw E.words) (hl : d.length ≤ 524288)
    (h1 : W2.heap[mb]? = some (.cells (splice zsW.toList 0 (dataV d)).toArray 37 (0, 0))) (h2 : W2.heap[bm]? = W.heap[bm]?) (hb : Below wb.heap.size wb W2) :
    Sd ⟨wb.heap.size, W2.heap.size, bm, mb, vw⟩ E wb W2 (start E d entry) (.slice none 0 0) (.slice none 0 0) := by
  obtain ⟨l1, l2, l3⟩ := h.lo
  obtain ⟨f1, f2⟩ := mem_fill d hl
  exact ⟨⟨l2, l1, lt_of_block (h2.trans h.mach), lt_of_block h1, l3⟩, hb, Nat.le_refl _, ⟨_, h2.trans h.mach, rfl, machD_cs ⟨wb.heap.size, W2.heap.size, bm, mb, vw⟩ E d entry⟩, hw, rfl, ⟨_, h1, f1, f2⟩, World.ownsRow_nil _ _ _ _, World.ownsRow_nil _ _ _ _, fun b h => (by cases h)⟩
/-- For the loop's measure. -/
def leftD (bm fuel : Nat) (w : World) : Nat :=
  2 * (fuel - (match w.cell? ⟨bm, 21, none⟩ with | some v => (intOf v).toNat | none => 0)) + (match w.cell? ⟨bm, 18, none⟩ with | some v => if intOf v = 0 then 1 else 0 | none => 0)
theorem Sd.leftD {x : Dz} {E : Env} {w w' : World} {m : M} {back buf : Value} (h : Sd x E w w' m back buf) (fuel : Nat) : leftD x.bm fuel w' = 2 * (fuel - m.steps) + if m.stop = 0 then 1 else 0 := by
  have h1 := (h.cell (k := 21) (by decide)).1
  have h2 := (h.cell (k := 18) (by decide)).1
  change _ = some (Value.int .i64 m.steps) at h1
  change _ = some (Value.int .i64 m.stop) at h2
  unfold Emu.leftD
  rw [h1, h2]
  simp only [intOf]
  by_cases hz : m.stop = 0 <;> simp [hz]
/-- The copy of the data into the memory. -/
theorem run_fill (Z : Array Value) (hz : Z.size = 524288) (W : World) (mb : Nat) (d : List Int) (dp : Option Addr) (dc : Nat) (hm : W.heap[mb]? = some (.cells Z 37 (0, 0))) (hd : WordsR W (.slice dp d.length dc) d) (hl : d.length ≤ 524288) :
    ∃ W2, (∀ ty, (Builtin.copy_ #[24, 24] ty #[.slice (some ⟨mb, 0, none⟩) 524288 524288, .slice dp d.length dc]).run Tryd.prog W = .ok (.int .i64 (d.length : Int)) W2) ∧
      W2.heap[mb]? = some (.cells (splice Z.toList 0 (dataV d)).toArray 37 (0, 0)) ∧ (∀ b, b ≠ mb → W2.heap[b]? = W.heap[b]?) ∧ ∀ B, B ≤ mb → Below B W W2 := by
  have hcl : (dataV d).length = d.length := List.length_map _
  by_cases h0 : d.length = 0
  · have e : d = [] := List.eq_nil_of_length_eq_zero h0
    subst e
    refine ⟨W, fun ty => run_copy_none (P := Tryd.prog) W _ _ ty 37 _ _ _ _ _ _ Tryd.underlying24 (by kernel_rfl) (Nat.zero_min 524288), ?_, fun _ _ => rfl, fun B _ => Below.refl _ _⟩
    rw [hm]
    unfold splice dataV
    simp
  · obtain ⟨b, o, c, e, hc, hb, hat⟩ := SlR.form2 hd (by omega)
    injection e with e1 _ e3
    subst e1 e3
    have hsrc : ∀ j v, (dataV d)[j]? = some v → W.cell? (Addr.add ⟨b, o, none⟩ j) = some v := fun j v hj => by
      unfold dataV at hj
      rw [List.getElem?_map] at hj
      cases hy : d[j]? with
      | none => rw [hy] at hj; cases hj
      | some y =>
        rw [hy] at hj
        injection hj with hj
        have h9 := hat j (List.getElem?_eq_some_iff.1 hy).1 y hy
        rw [Nat.mul_one] at h9
        rw [addO, h9, ← hj]
    have hone : ∀ v ∈ dataV d, v.oneCell' = true := fun v hv => by
      unfold dataV at hv
      obtain ⟨y, _, rfl⟩ := List.mem_map.1 hv
      rfl
    have hfit : 0 + (dataV d).length ≤ Z.size := by rw [hcl, hz]; omega
    have hmin : (dataV d).length = Nat.min d.length 524288 := by rw [hcl]; exact (Nat.min_eq_left hl).symm
    refine ⟨W.setRow mb (splice Z.toList 0 (dataV d)).toArray, fun ty => ?_, setRow_heap _ _ _ _ _ _ hm, fun b hb => setRow_other _ _ _ _ hb, fun B hB => below_setRow (Below.refl _ _) hB _⟩
    have hrun := run_copy_row (P := Tryd.prog) W 24 24 ty 37 mb 0 524288 524288 ⟨b, o, none⟩ d.length dc Z 37 (dataV d) Tryd.underlying24 (by kernel_rfl) hm hmin hsrc hfit hone
    rw [hrun]
    unfold splice
    rw [List.append_assoc, hcl]
    rfl
set_option maxHeartbeats 8000000 in
set_option maxRecDepth 100000 in
theorem rrun_yes (m : Image) (vw vk vd : Value) (input : List UInt8) (f : Nat) (w : World) (h : ImgR w m vw vk vd) (hsm : SmI m) (hM : mayI m = true) (hin : input.length ≤ 10000) (hf : (f : Int) ≤ 1073741824) :
    Calls Tryd.prog 21 #[.agg #[vw, vk, vd, .int .i64 m.entry], .string ⟨input.toArray⟩, .int .i64 (f : Int)] w fun e w' =>
      e = .returned (.tuple #[outV (runP ar hs m input f).1, .int .i64 (runP ar hs m input f).2]) ∧ Below w.heap.size w w' := by
  have HMB := Lib.hid (fun (W : World) (hb : Below w.heap.size w W) => rmay_any W m vw vk vd (h.below hb) hsm)
  rw [hM] at HMB
  have HIM := Lib.hid h
  obtain ⟨wp, cw, rfl⟩ := SlR.form h.words
  obtain ⟨kp, kc, rfl⟩ := SlR.form h.kinds
  obtain ⟨dp, dc, rfl⟩ := SlR.form h.data
  have HB0 := Lib.hid (((below_one w (.cells #[.slice wp m.words.length cw, .slice kp m.kinds.length kc, .slice dp m.data.length dc, .int .i64 m.entry] 48)).alloc (by simp) (.cells #[.int .i64 0, .int .u32 0, .string ⟨#[]⟩, .int .i64 0] 51)))
  have HO := Lib.hid (show ((w.alloc (.cells #[.slice wp m.words.length cw, .slice kp m.kinds.length kc, .slice dp m.data.length dc, .int .i64 m.entry] 48)).alloc (.cells #[.int .i64 0, .int .u32 0, .string ⟨#[]⟩, .int .i64 0] 51)).heap[w.heap.size + 1]? = some (.cells #[.int .i64 0, .int .u32 0, .string ⟨#[]⟩, .int .i64 0] 51 (0, 0)) from by
    have := heap_alloc_new (w.alloc (.cells #[.slice wp m.words.length cw, .slice kp m.kinds.length kc, .slice dp m.data.length dc, .int .i64 m.entry] 48)) (.cells #[.int .i64 0, .int .u32 0, .string ⟨#[]⟩, .int .i64 0] 51)
    rwa [World.size_alloc] at this)
  have HI := Lib.hid (show ((w.alloc (.cells #[.slice wp m.words.length cw, .slice kp m.kinds.length kc, .slice dp m.data.length dc, .int .i64 m.entry] 48)).alloc (.cells #[.int .i64 0, .int .u32 0, .string ⟨#[]⟩, .int .i64 0] 51)).heap[w.heap.size]? = some (.cells #[.slice wp m.words.length cw, .slice kp m.kinds.length kc, .slice dp m.data.length dc, .int .i64 m.entry] 48 (0, 0)) from
    (Below.heap_alloc _ _ _ (by simp)).trans (heap_alloc_new w _))
  have hmk := make_mem
  have hS : mayS m = true := by
    rw [mayI_eq] at hM
    cases hq : mayS m with
    | true => rfl
    | false => rw [hq] at hM; cases hM
  obtain ⟨n1, n2, n3, n4, n5, n6⟩ := of_decide_eq_true hS
  have hwW : ∀ v ∈ m.words, isW v := fun v hv => ⟨(hsm.words v hv).1, by have := (hsm.words v hv).2; omega⟩
  have hdW : ∀ v ∈ m.data, isW v := fun v hv => ⟨(hsm.data v hv).1, by have := (hsm.data v hv).2; omega⟩
  obtain ⟨E, hE⟩ : ∃ E : Env, E = ⟨m.words, input, ar, hs⟩ := ⟨_, rfl⟩
  have hEw : E.words = m.words := by rw [hE]
  have hEi : E.input = input := by rw [hE]
  have hEok : EnvOk E := ⟨by rw [hEw]; exact hwW, by rw [hEw]; exact n2, by rw [hEi]; exact hin, fun k a b v h => by rw [hE] at h; exact ar_isW k a b v h⟩
  have hA : DArith E.ar := by rw [hE]; exact ⟨arith_none, arith_some⟩
  have hT : DHolds E.holds := by rw [hE]; exact ⟨fun op h a b ha hb w => holds_ref h ha hb w⟩
  have hr : runP ar hs m input f = (outOf (runN E f (start E m.data m.entry)), 0) := by unfold runP; rw [hM, if_pos rfl, if_pos hin, if_pos ⟨by omega, by omega⟩, hE, Int.toNat_natCast]
  rw [hr]
  have hinv := start_inv E m.data m.entry n4 hdW ⟨n5, by omega⟩
  have q1 : decide ((10000 : Int) < input.length) = false := decide_eq_false (by omega)
  have q2 : decide ((f : Int) < 0) = false := decide_eq_false (by omega)
  have q3 : decide ((1073741824 : Int) < f) = false := decide_eq_false (by omega)
  have HSD := Lib.hid (fun (wb W W2 : World) (bm mb : Nat) (hb : Below w.heap.size w wb) (hB : Born wb (.slice wp m.words.length cw) ⟨E.input.toArray⟩ m.entry bm mb W) => hB.sd (d := m.data) (W2 := W2) (by rw [hEw]; exact (h.below hb).words) n4)
  rw [hEi] at HSD
  have HDA := Lib.hid (fun (wb : World) (hb : Below w.heap.size w wb) => (h.below hb).data)
  have HOK := Lib.hid hEok
  have HA := Lib.hid hA
  have HT := Lib.hid hT
  have HIN := Lib.hid hinv
  have HN4 := Lib.hid n4
  have HF := Lib.hid hf
  clear h hsm hM hin hf hS n1 n2 n3 n4 n5 n6 hwW hdW hE hEw hEi hEok hr hA hT hinv
  obtain ⟨m0, hm0⟩ : ∃ m0, m0 = start E m.data m.entry := ⟨_, rfl⟩
  rw [← hm0] at HSD HIN ⊢
  have HM0 := Lib.hid hm0
  clear hm0
  generalize m.words.length = n at *
  generalize m.kinds.length = kn at *
  generalize hdn : m.data.length = dn at *
  have HDN := Lib.hid hdn
  clear hdn
  generalize hfi : (f : Int) = fi at *
  have HFI := Lib.hid hfi
  clear hfi
  go_enter Tryd.func21, Tryd.ntmps21
  go_upto_region 8 with (go_at_call 45; refine (HMB.out _ HB0.out).mono ?_; rintro e w1 ⟨rfl, hb⟩; have HO1 := Lib.hid ((hb.block (w.heap.size + 1) (by simp)).trans HO.out); have hi1 := (hb.block w.heap.size (by simp; omega)).trans HI.out; obtain ⟨⟨u0, u1, u2, u3⟩, t0, t1, t2, t3⟩ := fourE HO1.out; obtain ⟨⟨i0, i1, i2, i3⟩, _⟩ := fourE hi1; have HB1 := Lib.hid (bt HB0.out hb); have HI1 := Lib.hid hi1; have hlo := lt_of_block hi1; clear hb hi1)
  go_cut [9] (fun t9 wc => ∃ bm mb, t9 = .pointer (some ⟨bm, 0, none⟩) ∧ Hid (Born w1 (.slice wp n cw) ⟨input.toArray⟩ m.entry bm mb wc))
  case first =>
    go_region
    all_goals
      go_wp2
      go_meet
      first
        | exact ⟨_, _, rfl, Lib.hid (born_at (Below.refl _ _) _ _ _)⟩
        | exact ⟨_, _, rfl, Lib.hid (born_at (Below.refl _ _) _ _ _).drew⟩
        | exact ⟨_, _, rfl, Lib.hid (born_at (Below.refl _ _).drew _ _ _)⟩
  case rest =>
    obtain ⟨bm, mb, rfl, HBN⟩ := hcut
    obtain ⟨l1, l2, l3⟩ := HBN.out.lo
    have hi2 := (HBN.out.below.block w.heap.size hlo).trans HI1.out
    have ho2 := (HBN.out.below.block (w.heap.size + 1) (lt_of_block HO1.out)).trans HO1.out
    obtain ⟨⟨j0, j1, j2, j3⟩, _⟩ := fourE hi2
    have c13 := (Enc.cell_of_block HBN.out.mach (k := 13) rfl).1
    obtain ⟨W2, hrun, hw1, hw2, hw3⟩ := run_fill zsW zsW_size wc.drew mb m.data dp dc HBN.out.mem (by rw [HDN.out]; exact ((HDA.out w1 HB1.out).below HBN.out.below).below (Below.refl _ _).drew) (by rw [HDN.out]; exact HN4.out)
    rw [HDN.out] at hrun
    have hb2 : Below w1.heap.size w1 W2 := HBN.out.below.drew.trans (hw3 _ l1)
    have hsd := HSD.out w1 wc W2 bm mb HB1.out HBN.out hw1 (hw2 bm l3) hb2
    obtain ⟨x, hxb, hxz, HS⟩ : ∃ x : Dz, x.bm = bm ∧ x.Z = w1.heap.size ∧ Hid (Sd x E w1 W2 m0 (.slice none 0 0) (.slice none 0 0)) := ⟨_, rfl, rfl, Lib.hid hsd⟩
    have HO2 := Lib.hid ((hb2.block (w.heap.size + 1) (lt_of_block HO1.out)).trans HO1.out)
    have HB2 := Lib.hid hb2
    clear hw1 hw2 hw3 hb2 hsd hi2 ho2 u0 u1 u2 u3 t0 t1 t2 t3 i0 i1 i2 i3 j0 j1 j3 hmk l1 l2 l3
    subst hxb
    go_upto_region 9 with (fail)
    go_region
    all_goals
      clear hrun j2 c13
      have HR : Hid (Rn E f m0 m0) := Lib.hid (by rw [HM0.out]; exact ⟨Nat.zero_le _, .inl ⟨rfl, rfl, by rw [← HM0.out]; exact HIN.out, Nat.zero_le _⟩⟩)
      go_wp2
      go_loopw [] (fun wr => ∃ m1 b1 f1, Hid (Sd x E w1 wr m1 b1 f1) ∧ Hid (Rn E f m0 m1)) (fun wr => leftD x.bm f wr)
      case atStart => exact ⟨m0, _, _, HS, HR⟩
      case round =>
        obtain ⟨m1, b1, f1, H1, HRn⟩ := hrel
        obtain ⟨c18, f18⟩ := H1.out.cell (k := 18) (by decide)
        change _ = some (Value.int .i64 m1.stop) at c18
        obtain ⟨c21, f21⟩ := H1.out.cell (k := 21) (by decide)
        change _ = some (Value.int .i64 m1.steps) at c21
        have hl1 := H1.out.lm
        by_cases hs : m1.stop = 0
        · obtain ⟨hk, hrun | hend⟩ := HRn.out
          · obtain ⟨_, hrun, hinv, hbl⟩ := hrun
            rw [hs] at c18
            by_cases hkf : m1.steps = f
            · have HE := Lib.hid (Rn.spent hrun hs hkf)
              have HA9 := Lib.hid (stop_d H1.out 3 0)
              have HK := Lib.hid hkf
              have HZ := Lib.hid hs
              rw [hkf, HFI.out] at c21
              clear hrun hinv hbl hk hkf hs
              go_wp2_with (go_at_call 46; refine HA9.out.mono ?_; rintro e w3 ⟨rfl, h3⟩; have H3 := Lib.hid h3; clear h3)
              go_roundw
              case rel => exact ⟨_, _, _, H3, Lib.hid ⟨Nat.le_of_eq HK.out, .inr ⟨by show (3 : Int) ≠ 0; decide, HE.out⟩⟩⟩
              case measure =>
                have h7 := H3.out.leftD f
                have h8 := H1.out.leftD f
                rw [if_pos HZ.out] at h8
                rw [if_neg (by show ¬ (3 : Int) = 0; decide)] at h7
                have h9 : (halt m1 3 0).steps = m1.steps := rfl
                omega
            · have hlt : m1.steps < f := by omega
              have hff := HF.out
              have hfi := HFI.out
              have HS2 := Lib.hid (show Sd x E w1 (wr.setCell ⟨x.bm, 21, none⟩ (.int .i64 ((m1.steps : Int) + 1))) { m1 with steps := m1.steps + 1 } b1 f1 from by
                have h9 := H1.out.setSteps (m1.steps + 1)
                rw [show ((m1.steps + 1 : Nat) : Int) = (m1.steps : Int) + 1 by omega] at h9
                exact h9)
              have hinv2 : Inv { m1 with steps := m1.steps + 1 } := ⟨hinv.rl, hinv.rw, hinv.ml, hinv.mw, hinv.pl, hinv.cb, hinv.cl⟩
              have HST := Lib.hid (fun (W : World) (hW : Sd x E w1 W { m1 with steps := m1.steps + 1 } b1 f1) => step_d hW hinv2 HOK.out (by show m1.bytes.length ≤ 1073741824; omega) HA.out HT.out)
              have HRN := Lib.hid (Rn.next (fuel := f) hrun hs hlt (Eqv.refl _) (inv_step hinv2 HOK.out) hbl)
              have HSP := Lib.hid (show (stepP E { m1 with steps := m1.steps + 1 }).steps = m1.steps + 1 from (step_steps (E := E) { m1 with steps := m1.steps + 1 }).1)
              have HLT := Lib.hid hlt
              have hkb : (m1.steps : Int) + 1 ≤ 1073741824 := by omega
              have hkz : 0 ≤ (m1.steps : Int) := by omega
              have hkn : ¬ fi ≤ (m1.steps : Int) := by omega
              have HZ := Lib.hid hs
              clear hrun hinv hbl hk hkf hs hlt hff hfi hinv2
              generalize hks : (m1.steps : Int) = k at c21 HS2 hkb hkn hkz
              have HKS := Lib.hid hks
              clear hks
              go_wp2_with (go_at_call 47; refine (HST.out _ HS2.out).mono ?_; rintro e w3 ⟨rfl, b3, f3, h3⟩; have H3 := Lib.hid h3; clear h3)
              go_roundw
              case rel => exact ⟨_, _, _, H3, HRN⟩
              case measure =>
                have h7 := H3.out.leftD f
                have h8 := H1.out.leftD f
                rw [if_pos HZ.out] at h8
                rw [HSP.out] at h7
                have h9 := HLT.out
                have h10 : (if (stepP E { m1 with steps := m1.steps + 1 }).stop = 0 then 1 else 0) ≤ 1 := by split <;> omega
                omega
          · exact absurd hs hend.1
        · have hout : outOf m1 = outOf (runN E f m0) := by
            obtain ⟨_, hr | hr⟩ := HRn.out
            · exact absurd hr.1 hs
            · exact hr.2
          have HEQ := Lib.hid (hout.symm.trans (outOf_stop hs))
          have hq : (m1.stop == 0) = false := by simp [hs]
          obtain ⟨c19, f19⟩ := H1.out.cell (k := 19) (by decide)
          change _ = some (Value.int .u32 m1.code) at c19
          obtain ⟨c20, f20⟩ := H1.out.cell (k := 20) (by decide)
          change _ = some (Value.string ⟨#[]⟩) at c20
          obtain ⟨c22, f22⟩ := H1.out.cell (k := 22) (by decide)
          have hcv := conv_row wr H1.out.bufR
          obtain ⟨pf, cf, rfl, _⟩ := own_form H1.out.bufR
          change _ = some (Value.slice pf m1.bytes.length cf) at c22
          have hb1 := H1.out.below
          rw [hxz] at hb1
          have ho1 := (hb1.block (w.heap.size + 1) (lt_of_block HO1.out)).trans HO1.out
          obtain ⟨⟨u0, u1, u2, u3⟩, t0, t1, t2, t3⟩ := fourE ho1
          have hzb := H1.out.ok.zb
          rw [hxz] at hzb
          have hlt2 := lt_of_block HO1.out
          have hne1 : ¬ (x.bm = w.heap.size + 1) := by omega
          have hne2 : ¬ (w.heap.size + 1 = x.bm) := by omega
          have HO3 := Lib.hid (set_other (i := 20) (v := .string ⟨m1.bytes.toArray⟩) ho1 hne2)
          have HB3 := Lib.hid (bt HB1.out (hb1.setCell (p := ⟨x.bm, 20, none⟩) hzb (.string ⟨m1.bytes.toArray⟩)))
          clear hout hs hb1 ho1 hzb hlt2 f22 HRn
          go_wp2
          refine bodyPost_ret (v := .tuple #[.agg #[.int .i64 m1.stop, .int .u32 m1.code, .string ⟨m1.bytes.toArray⟩, .int .i64 m1.steps], .int .i64 0]) ?_ rfl ⟨by rw [HEQ.out], ?_⟩
          · obtain ⟨⟨e0, e1, e2, e3⟩, _⟩ := fourE (put4 HO3.out (.int .i64 m1.stop) (.int .u32 m1.code) (.string ⟨m1.bytes.toArray⟩) (.int .i64 m1.steps))
            simp [results, Tryd.results21, go_sem, e0, e1, e2, e3]
          · exact below4 HB3.out (by omega) _ _ _ _
end Go.Proofs.YtopceggmdieppaaDoor.Emu
