/- The machine laid: start. No condition but that the image may be. -/
import Derived.Test.YtopceggmdieppaaDoorHC
import Derived.Test.YtopceggmdieppaaDoorEp1
import Derived.Deep.RegionHeld3
import Derived.BigRegion
namespace Go.Proofs.YtopceggmdieppaaDoor.Emu
open Go.RowKit Go.Proofs.YtopceggmdieppaaDoor.Enc Go.Proofs.YtopceggmdieppaaDoor.Graph

/-- The list of instructions, as far as it is read. -/
structure ListOk (words : List Int) (k lb : Nat) (w : World) : Prop where
  list : ∃ cs, w.heap[lb]? = some (.cells cs 120 (0, 0)) ∧ ∀ i, i < words.length → ∀ c : PC, c = (if i < k then insP (words.getD i 0) else ⟨0, 0, 0, 0⟩) → cs[4 * i]? = some (.int .u8 c.op) ∧ cs[4 * i + 1]? = some (.int .u8 c.a) ∧ cs[4 * i + 2]? = some (.int .u8 c.b) ∧ cs[4 * i + 3]? = some (.int .i32 c.imm)
theorem ListOk.zero (words : List Int) {lb : Nat} {w : World} (h : w.heap[lb]? = some (.cells (zsA words.length) 120 (0, 0))) : ListOk words 0 lb w := by
  refine ⟨_, h, fun i hi c hc => ?_⟩
  rw [if_neg (by omega)] at hc
  subst hc
  exact ⟨zsA_at _ i 0 hi (by omega), zsA_at _ i 1 hi (by omega), zsA_at _ i 2 hi (by omega), zsA_at _ i 3 hi (by omega)⟩
theorem ListOk.keep {words : List Int} {k lb : Nat} {w w' : World} (h : ListOk words k lb w) (he : w'.heap[lb]? = w.heap[lb]?) : ListOk words k lb w' := by
  obtain ⟨cs, h1, h2⟩ := h.list
  exact ⟨cs, he.trans h1, h2⟩
theorem ListOk.skip {words : List Int} {k lb : Nat} {w : World} (h : ListOk words k lb w) (he : (decP (words.getD k 0)).2 ≠ 0) : ListOk words (k + 1) lb w := by
  obtain ⟨cs, h1, h2⟩ := h.list
  refine ⟨cs, h1, fun i hi c hc => h2 i hi c ?_⟩
  rw [hc]
  by_cases e : i = k
  · subst e
    rw [if_pos (by omega), if_neg (by omega)]
    unfold insP
    rw [if_neg he]
  · by_cases e2 : i < k
    · rw [if_pos (by omega), if_pos e2]
    · rw [if_neg (by omega), if_neg e2]
theorem ListOk.cells {words : List Int} {k lb : Nat} {w : World} (h : ListOk words k lb w) (hk : k < words.length) : ∃ v0 v1 v2 v3, (w.cell? ⟨lb, k * 4, none⟩ = some v0 ∧ w.frozen? ⟨lb, k * 4, none⟩ = false) ∧ (w.cell? ⟨lb, k * 4 + 1, none⟩ = some v1 ∧ w.frozen? ⟨lb, k * 4 + 1, none⟩ = false) ∧ (w.cell? ⟨lb, k * 4 + 2, none⟩ = some v2 ∧ w.frozen? ⟨lb, k * 4 + 2, none⟩ = false) ∧ (w.cell? ⟨lb, k * 4 + 3, none⟩ = some v3 ∧ w.frozen? ⟨lb, k * 4 + 3, none⟩ = false) := by
  obtain ⟨cs, h1, h2⟩ := h.list
  obtain ⟨q0, q1, q2, q3⟩ := h2 k hk _ rfl
  rw [Nat.mul_comm] at q0 q1 q2 q3
  exact ⟨_, _, _, _, cell_of_block h1 q0, cell_of_block h1 q1, cell_of_block h1 q2, cell_of_block h1 q3⟩
theorem get4 {cs : Array Value} {k : Nat} (a b c d : Value) (h : k * 4 + 3 < cs.size) : ∀ j, ((((cs.setIfInBounds (k * 4) a).setIfInBounds (k * 4 + 1) b).setIfInBounds (k * 4 + 2) c).setIfInBounds (k * 4 + 3) d)[j]? = if j = k * 4 then some a else if j = k * 4 + 1 then some b else if j = k * 4 + 2 then some c else if j = k * 4 + 3 then some d else cs[j]? := by
  intro j
  by_cases e0 : j = k * 4
  · subst e0
    rw [if_pos rfl, Array.getElem?_setIfInBounds_ne (by omega), Array.getElem?_setIfInBounds_ne (by omega), Array.getElem?_setIfInBounds_ne (by omega), Array.getElem?_setIfInBounds_self_of_lt (by omega)]
  rw [if_neg e0]
  by_cases e1 : j = k * 4 + 1
  · subst e1
    rw [if_pos rfl, Array.getElem?_setIfInBounds_ne (by omega), Array.getElem?_setIfInBounds_ne (by omega), Array.getElem?_setIfInBounds_self_of_lt (by simp; omega)]
  rw [if_neg e1]
  by_cases e2 : j = k * 4 + 2
  · subst e2
    rw [if_pos rfl, Array.getElem?_setIfInBounds_ne (by omega), Array.getElem?_setIfInBounds_self_of_lt (by simp; omega)]
  rw [if_neg e2]
  by_cases e3 : j = k * 4 + 3
  · subst e3
    rw [if_pos rfl, Array.getElem?_setIfInBounds_self_of_lt (by simp; omega)]
  rw [if_neg e3, Array.getElem?_setIfInBounds_ne (by omega), Array.getElem?_setIfInBounds_ne (by omega), Array.getElem?_setIfInBounds_ne (by omega), Array.getElem?_setIfInBounds_ne (by omega)]
theorem ListOk.put {words : List Int} {k lb : Nat} {w : World} (h : ListOk words k lb w) (hk : k < words.length) (c : PC) (hc : c = insP (words.getD k 0)) :
    ListOk words (k + 1) lb ((((w.setCell ⟨lb, k * 4, none⟩ (.int .u8 c.op)).setCell ⟨lb, k * 4 + 1, none⟩ (.int .u8 c.a)).setCell ⟨lb, k * 4 + 2, none⟩ (.int .u8 c.b)).setCell ⟨lb, k * 4 + 3, none⟩ (.int .i32 c.imm)) := by
  obtain ⟨cs, h1, h2⟩ := h.list
  have hl : k * 4 + 3 < cs.size := by
    have := (h2 k hk _ rfl).2.2.2
    rw [Nat.mul_comm] at this
    exact (Array.getElem?_eq_some_iff.1 this).1
  refine ⟨_, heap_setCell_same _ _ _ _ _ _ (heap_setCell_same _ _ _ _ _ _ (heap_setCell_same _ _ _ _ _ _ (heap_setCell_same w lb _ _ _ _ h1))), fun i hi c' hc' => ?_⟩
  rw [get4 _ _ _ _ hl, get4 _ _ _ _ hl, get4 _ _ _ _ hl, get4 _ _ _ _ hl]
  by_cases e : i = k
  · subst e
    rw [if_pos (by omega)] at hc'
    rw [hc', ← hc]
    refine ⟨by rw [if_pos (by omega)], by rw [if_neg (by omega), if_pos (by omega)], by rw [if_neg (by omega), if_neg (by omega), if_pos (by omega)], by rw [if_neg (by omega), if_neg (by omega), if_neg (by omega), if_pos (by omega)]⟩
  · obtain ⟨q0, q1, q2, q3⟩ := h2 i hi c' (by
      rw [hc']
      by_cases e2 : i < k
      · rw [if_pos (by omega), if_pos e2]
      · rw [if_neg (by omega), if_neg e2])
    refine ⟨?_, ?_, ?_, ?_⟩
    all_goals rw [if_neg (by omega), if_neg (by omega), if_neg (by omega), if_neg (by omega)]; assumption
theorem grown_refl (w : World) (k : Option Nat) : w.grownBy w k := ⟨rfl, rfl, rfl, Nat.le_refl _, fun _ _ _ => rfl⟩
theorem grown_below {w w1 w2 : World} {k : Option Nat} (h : w.grownBy w1 k) (hb : Below w1.heap.size w1 w2) : w.grownBy w2 k :=
  ⟨hb.os.trans h.os, hb.tape.trans h.tape, hb.output.trans h.output, Nat.le_trans h.size hb.size, fun j hj hne => (hb.block j (Nat.lt_of_lt_of_le hj h.size)).trans (h.block j hj hne)⟩
theorem grown_set {w w1 : World} {lb : Nat} (h : w.grownBy w1 (some lb)) (k : Nat) (v : Value) : w.grownBy (w1.setCell ⟨lb, k, none⟩ v) (some lb) :=
  ⟨h.os, h.tape, h.output, by rw [World.size_setCell]; exact h.size, fun j hj hne => (heap_setCell_other w1 ⟨lb, k, none⟩ j v (fun e => hne (by rw [e]))).trans (h.block j hj hne)⟩
theorem grown_alloc {w w1 : World} {k : Option Nat} (h : w.grownBy w1 k) (o : Obj) : w.grownBy (w1.alloc o) k := grown_below h (below_one _ _)
theorem grown_drew {w w1 : World} {k : Option Nat} (h : w.grownBy w1 k) : w.grownBy w1.drew k := grown_below h (Below.refl _ _).drew
theorem ListOk.lt {words : List Int} {k lb : Nat} {w : World} (h : ListOk words k lb w) : lb < w.heap.size := by
  obtain ⟨cs, h1, _⟩ := h.list
  exact lt_of_block h1
theorem ListOk.alloc {words : List Int} {k lb : Nat} {w : World} (h : ListOk words k lb w) (o : Obj) : ListOk words k lb (w.alloc o) := h.keep (Below.heap_alloc _ _ _ h.lt)
theorem ListOk.drew {words : List Int} {k lb : Nat} {w : World} (h : ListOk words k lb w) : ListOk words k lb w.drew := h.keep rfl
def StartPost (w : World) (E : Env) (data : List Int) (entry : Int) (e : Ending) (w2 : World) : Prop :=
  ∃ x pg, e = .returned (.pointer (some ⟨x.bm, 0, none⟩)) ∧ x.Z = w.heap.size ∧ St x E wk0 w w2 (start E data entry) (.pointer none) (.slice none 0 0) (.slice none 0 0) pg
set_option maxHeartbeats 8000000 in
set_option maxRecDepth 100000 in
theorem start_prog (w : World) (E : Env) (kinds : Value) (vw vd : Value) (data : List Int) (entry : Int) (hw : WordsR w vw E.words) (hd : WordsR w vd data) (hn : 1 ≤ E.words.length ∧ E.words.length ≤ 65536) (hl : data.length ≤ 524288) (hW : ∀ v ∈ E.words, isW v) (hF : FormsAt w) :
    Calls Tryd.prog 42 #[.agg #[vw, kinds, vd, .int .i64 entry], .string ⟨E.input.toArray⟩] w (StartPost w E data entry) := by
  obtain ⟨b, o, c, rfl, hc, hb, hat⟩ := SlR.form2 hw (by omega)
  obtain ⟨dp, dc, rfl⟩ := SlR.form hd
  have HSo := Lib.hid (Sofar.begin w #[.slice (some ⟨b, o, none⟩) E.words.length c, kinds, .slice dp data.length dc, .int .i64 entry] E.words.length (memL data))
  have HNM := Lib.hid (fun (lbo : Option Nat) (W : World) (h : Sofar w #[.slice (some ⟨b, o, none⟩) E.words.length c, kinds, .slice dp data.length dc, .int .i64 entry] E.words.length (memL data) lbo none W) =>
    (newMemory_prog W (.slice dp data.length dc) data (hd.below h.below) hl).mono (R' := fun e w2 => ∃ mm pg, e = .returned (.pointer (some ⟨mm, 0, none⟩)) ∧ Sofar w #[.slice (some ⟨b, o, none⟩) E.words.length c, kinds, .slice dp data.length dc, .int .i64 entry] E.words.length (memL data) lbo (some (mm, pg)) w2) (by
      rintro e w2 ⟨mm, pg, rfl, h1, h2, h3, h4⟩
      exact ⟨mm, pg, rfl, h.memory h1 h2 h3 h4⟩))
  have HWK := Lib.hid (fun (lbo : Option Nat) (mo : Option (Nat × (Nat → Option Nat))) (W : World) (h : Sofar w #[.slice (some ⟨b, o, none⟩) E.words.length c, kinds, .slice dp data.length dc, .int .i64 entry] E.words.length (memL data) lbo mo W) =>
    (works_prog W).mono (R' := fun e w2 => e = .returned (.agg #[.nilFunc, .nilFunc, .nilFunc, .nilFunc, .nilFunc, .nilFunc, .func (.func 86) #[] #[], .func (.func 87) #[] #[], .func (.func 88) #[] #[], .func (.func 89) #[] #[], .func (.func 90) #[] #[], .func (.func 91) #[] #[], .func (.func 92) #[] #[], .func (.func 93) #[] #[], .func (.func 94) #[] #[], .func (.func 95) #[] #[], .func (.func 96) #[] #[], .func (.func 97) #[] #[], .func (.func 98) #[] #[], .func (.func 99) #[] #[], .func (.func 101) #[] #[], .func (.func 102) #[] #[], .func (.func 104) #[] #[], .func (.func 105) #[] #[], .func (.func 106) #[] #[]]) ∧ Sofar w #[.slice (some ⟨b, o, none⟩) E.words.length c, kinds, .slice dp data.length dc, .int .i64 entry] E.words.length (memL data) lbo mo w2) (by
      rintro e w2 ⟨rfl, h4⟩
      exact ⟨rfl, h.grow h4⟩))
  have HBX := Lib.hid (fun (lbo : Option Nat) (mo : Option (Nat × (Nat → Option Nat))) (W : World) (h : Sofar w #[.slice (some ⟨b, o, none⟩) E.words.length c, kinds, .slice dp data.length dc, .int .i64 entry] E.words.length (memL data) lbo mo W) =>
    (show W.cell? ⟨w.heap.size, 0, none⟩ = some (.slice (some ⟨b, o, none⟩) E.words.length c) ∧ W.cell? ⟨w.heap.size, 2, none⟩ = some (.slice dp data.length dc) ∧ W.cell? ⟨w.heap.size, 3, none⟩ = some (.int .i64 entry) from ⟨(cell_of_block h.box rfl).1, (cell_of_block h.box rfl).1, (cell_of_block h.box rfl).1⟩))
  have HWD := Lib.hid hw
  have hmk := make_ins E.words.length hn.2
  have HN := Lib.hid hn
  have HW := Lib.hid hW
  have HL := Lib.hid hl
  have HAT := Lib.hid hat
  have HF := Lib.hid hF
  have hn1 : E.words.length ≤ 65536 := hn.2
  have hc1 := hc.1
  clear hw hd hn hl hW hF hat hc
  generalize hnn : E.words.length = n at *
  generalize hdd : data.length = dn at *
  go_enter Tryd.func42, Tryd.ntmps42
  go_upto_region 1 with (fail)
  go_cut [5] (fun t5 wc => ∃ bm lb mm pg, t5 = .pointer (some ⟨bm, 0, none⟩) ∧ Hid (Laid w #[.slice (some ⟨b, o, none⟩) n c, kinds, .slice dp dn dc, .int .i64 entry] n (memL data) (fun lb mm => machA (.slice (some ⟨b, o, none⟩) n c) n lb mm ⟨E.input.toArray⟩ entry) bm lb mm pg wc))
  case first =>
    go_region_held3 (fun w' => w'.cell? ⟨w.heap.size, 0, none⟩ = some (.slice (some ⟨b, o, none⟩) n c) ∧ w'.cell? ⟨w.heap.size, 2, none⟩ = some (.slice dp dn dc) ∧ w'.cell? ⟨w.heap.size, 3, none⟩ = some (.int .i64 entry)) (first | with_reducible exact HBX.out _ _ _ HSo.out | with_reducible exact HBX.out _ _ _ HSo.out.drew | with_reducible exact HBX.out _ _ _ HSo.out.slice | with_reducible exact HBX.out _ _ _ HSo.out.sliceD | go_keep) (first
      | (go_at_call 64; refine (HNM.out _ _ (by first | with_reducible exact HSo.out | with_reducible exact HSo.out.drew | with_reducible exact HSo.out.slice | with_reducible exact HSo.out.sliceD)).mono ?_; rintro e wM ⟨mm, pg, rfl, hs⟩; have HSo := Lib.hid hs; obtain ⟨y0, y2, y3⟩ := HBX.out _ _ _ hs; clear hs)
      | (go_at_call 65; refine (HWK.out _ _ _ (by first | with_reducible exact HSo.out | with_reducible exact HSo.out.drew | with_reducible exact HSo.out.slice | with_reducible exact HSo.out.sliceD)).mono ?_; rintro e wK ⟨rfl, hs⟩; have HSo := Lib.hid hs; obtain ⟨y0, y2, y3⟩ := HBX.out _ _ _ hs; clear hs))
    all_goals
      go_wp2
      go_meet
      (try rw [World.size_alloc] at HSo)
      first
        | exact ⟨_, _, _, _, rfl, Lib.hid (HSo.out.machine _)⟩
        | exact ⟨_, _, _, _, by rw [World.size_alloc], Lib.hid (HSo.out.slice.machine _)⟩
  case rest =>
    obtain ⟨bm, lb, mm, pg, rfl, HLD⟩ := hcut
    obtain ⟨z0, z2, z3⟩ := HBX.out _ _ _ HLD.out.so
    go_wp2
    go_loopw [28] (fun i wr => ∃ k : Nat, i = .int .i64 k ∧ k ≤ n ∧ Hid (wc.grownBy wr (some lb)) ∧ Hid (ListOk E.words k lb wr)) (fun i _ => n - (intOf i).toNat)
    case atStart => exact ⟨0, rfl, by omega, Lib.hid (grown_refl _ _), Lib.hid (ListOk.zero _ (by rw [hnn]; exact (HLD.out.so.list lb rfl).2))⟩
    case round =>
      obtain ⟨k, rfl, hk, HG, HLS⟩ := hrel
      have HLB := Lib.hid (HLD.out.so.list lb rfl).1
      have hbw : Below w.heap.size w wr := HLD.out.so.below.grown HG.out (Nat.le_of_lt HLD.out.so.lt) (fun j hj => by injection hj with hj; subst hj; exact Nat.le_of_lt HLB.out)
      have HBW := Lib.hid hbw
      by_cases hkn : k < n
      · have hx : E.words[k]? = some (E.words.getD k 0) := by
          rw [List.getD_eq_getElem?_getD, List.getElem?_eq_getElem (by omega)]; rfl
        have cw := HAT.out k hkn _ hx
        rw [Nat.mul_one, ← hbw.cell (p := ⟨b, o + k, none⟩) hb] at cw
        have hwd : isW (E.words.getD k 0) := isW_getD HW.out k
        have HDE := Lib.hid (fun (W : World) (hF : FormsAt W) => dec_any (E.words.getD k 0) ⟨hwd.1, by have := hwd.2; omega⟩ W hF)
        have HFW := Lib.hid (HF.out.below hbw)
        have hki : (k : Int) < n := by omega
        have hlbw := HLS.out.lt
        have hbmw : bm < wr.heap.size := Nat.lt_of_lt_of_le (lt_of_block HLD.out.mach) HG.out.size
        have hmm : wr.heap[bm]? = wc.heap[bm]? := HG.out.block bm (lt_of_block HLD.out.mach) (fun e => by injection e with e; exact HLD.out.off.1 e)
        have hm1 := (cell_of_block (hmm.trans HLD.out.mach) (k := 1) rfl).1
        by_cases he : (decP (E.words.getD k 0)).2 = 0
        · have hw9 := within (dec_may he)
          have hins : (decP (E.words.getD k 0)).1 = insP (E.words.getD k 0) := by unfold insP; rw [if_pos he]
          have HP4 := Lib.hid (fun (W : World) (h : ListOk E.words k lb W) => h.put (by rw [hnn]; exact hkn) (decP (E.words.getD k 0)).1 hins)
          have HD2 := Lib.hid (fun (W : World) (hF : FormsAt W) => (HDE.out W hF).mono (R' := fun e w2 => e = .returned (.tuple #[cV (decP (E.words.getD k 0)).1, .int .i64 0]) ∧ Below W.heap.size W w2) (fun e w2 h => ⟨by rw [h.1, he], h.2⟩))
          clear hins he HDE
          generalize (decP (E.words.getD k 0)).1 = ins at *
          obtain ⟨op, fa, fb, im⟩ := ins
          obtain ⟨⟨o1, o2⟩, ⟨a1, a2⟩, ⟨b1, b2⟩, ⟨i1, i2⟩⟩ := hw9
          simp only at o1 o2 a1 a2 b1 b2 i1 i2 HP4
          generalize E.words.getD k 0 = xw at *
          go_upto_region 7 with (go_at_call 66; refine (HD2.out _ HFW.out).mono ?_; rintro e w5 ⟨rfl, hb5⟩
                                 have d1 := (hb5.cell (p := ⟨bm, 1, none⟩) hbmw).trans hm1
                                 have HL5 := Lib.hid (HLS.out.keep (hb5.block lb hlbw))
                                 have HG5 := Lib.hid (grown_below HG.out hb5)
                                 obtain ⟨v0, v1, v2, v3, ⟨p0, f0⟩, ⟨p1, f1⟩, ⟨p2, f2⟩, p3, f3⟩ := HL5.out.cells (by rw [hnn]; exact hkn)
                                 have hl5 : lb < w5.heap.size := HL5.out.lt
                                 have hm5 : bm < w5.heap.size := Nat.lt_of_lt_of_le hbmw hb5.size
                                 clear hb5)
          go_region
          all_goals
            go_wp2
            go_roundw
            case rel => exact ⟨k + 1, by rw [show ((k + 1 : Nat) : Int) = (k : Int) + 1 by omega], by omega, Lib.hid (by repeat' first | exact HG5.out | apply grown_set | apply grown_alloc | apply grown_drew), Lib.hid (by repeat' first | exact HP4.out _ HL5.out | apply ListOk.alloc | apply ListOk.drew)⟩
            case measure => simp [intOf]; omega
        · have HSK := Lib.hid (fun (W : World) (h : ListOk E.words k lb W) => h.skip he)
          clear hbw
          generalize hdd2 : decP (E.words.getD k 0) = dd at *
          obtain ⟨⟨op, fa, fb, im⟩, er⟩ := dd
          simp only at he
          have HD2 := Lib.hid (fun (W : World) (hF : FormsAt W) => (HDE.out W hF).mono (R' := fun e w2 => e = .returned (.tuple #[cV ⟨op, fa, fb, im⟩, .int .i64 er]) ∧ Below W.heap.size W w2) (fun e w2 h => ⟨by rw [h.1, hdd2], h.2⟩))
          clear HDE hdd2
          generalize E.words.getD k 0 = xw at *
          go_wp2_with (go_at_call 66; refine (HD2.out _ HFW.out).mono ?_; rintro e w5 ⟨rfl, hb5⟩
                       have HL5 := Lib.hid (HLS.out.keep (hb5.block lb hlbw))
                       have HG5 := Lib.hid (grown_below HG.out hb5)
                       clear hb5)
          go_roundw
          case rel => exact ⟨k + 1, by rw [show ((k + 1 : Nat) : Int) = (k : Int) + 1 by omega], by omega, Lib.hid (by repeat' first | exact HG5.out | apply grown_set | apply grown_alloc | apply grown_drew), Lib.hid (by repeat' first | exact HSK.out _ HL5.out | apply ListOk.alloc | apply ListOk.drew)⟩
          case measure => simp [intOf]; omega
      · have hk2 : k = n := by omega
        subst hk2
        have hki : ¬ ((k : Int) < k) := by omega
        clear hbw
        go_wp2
        go_ret
        subst hnn hdd
        obtain ⟨hso, hmach, hhi, hof1, hof2, hof3⟩ := HLD.out
        obtain ⟨l1, l2⟩ := hso.list lb rfl
        obtain ⟨m1, m2, m3⟩ := hso.mem mm pg rfl
        obtain ⟨p1, p2⟩ := hso.apart lb mm pg rfl rfl
        have hg := HG.out
        have hmm : mm < wc.heap.size := by
          obtain ⟨cs, q1, _⟩ := m2.tab
          exact lt_of_block q1
        have hbm := lt_of_block hmach
        have hlb := lt_of_block l2
        have hsz := hg.size
        have hwl := hso.lt
        have hne : ∀ j, j < wc.heap.size → j ≠ lb → wr.heap[j]? = wc.heap[j]? := fun j hj hn => hg.block j hj (fun e => by injection e with e; exact hn e)
        obtain ⟨cs, q1, q2⟩ := HLS.out.list
        refine ⟨⟨w.heap.size, wr.heap.size, bm, mm, lb, w.heap.size, .slice (some ⟨b, o, none⟩) E.words.length c, some (.cells #[.slice (some ⟨b, o, none⟩) E.words.length c, kinds, .slice dp data.length dc, .int .i64 entry] 48 (0, 0))⟩, pg, rfl, rfl, ?_⟩
        refine ⟨⟨by simp only; omega, by simp only; omega, by simp only; omega, by simp only; omega, by simp only; omega, by simp only; omega, hof2, hof1, p1, by simp only; omega, by simp only; omega, by simp only; omega, by simp only; omega⟩, HBW.out, Nat.le_refl _, ⟨_, (hne bm hbm hof1).trans hmach, rfl, machA_cs ⟨w.heap.size, wr.heap.size, bm, mm, lb, w.heap.size, .slice (some ⟨b, o, none⟩) E.words.length c, some (.cells #[.slice (some ⟨b, o, none⟩) E.words.length c, kinds, .slice dp data.length dc, .int .i64 entry] 48 (0, 0))⟩ E data entry⟩, HWD.out, rfl, ⟨cs, q1, fun i hi => q2 i hi _ (by rw [if_pos hi])⟩, ?_, World.ownsRow_nil _ _ _ _, World.ownsRow_nil _ _ _ _, .inl rfl, fun b h => (by cases h), fun i g hi hg' => ?_, fun _ => rfl, (hne _ hwl (by omega)).trans hso.box, fun i g hi hg' => ?_⟩
        · exact m2.same (hne mm hmm p1) (fun i g hi hg' => hne g (m2.lt hi hg') (p2 i g hi hg'))
        · exact ⟨Nat.le_of_lt (m3 i g hi hg'), hof3 i g hi hg', p2 i g hi hg', (fun h => by cases h), (fun h => by cases h)⟩
        · have := m3 i g hi hg'
          simp only
          omega
end Go.Proofs.YtopceggmdieppaaDoor.Emu
