/- The document's arrays of a frame. No condition but sizes. -/
import Derived.Test.YtcijaaiopfbffaaDoorRC2
import Derived.Test.YtcijaaiopfbffaaDoorFB
import Derived.BigQuiet
namespace Go.Proofs.YtcijaaiopfbffaaDoor.Live
open Go.RowKit Go.Proofs.YtcijaaiopfbffaaDoor.Graph Go.Shelf

def parOf (a : PArr) : Int := if a.kind = 3 then 1 else 0
def parN (l : List PArr) : Int := l.foldl (fun s a => s + parOf a) 0
theorem par_take {l : List PArr} {k : Nat} {a : PArr} (h : l[k]? = some a) : parN (l.take (k + 1)) = parN (l.take k) + parOf a := by
  obtain ⟨h1, h2⟩ := List.getElem?_eq_some_iff.1 h
  unfold parN
  rw [List.take_succ_eq_append_getElem h1, List.foldl_append, h2]; rfl
theorem hand_par (l : List PArr) : handW l = 2 * parN l := by
  have key : ∀ (l : List PArr) (s : Int), l.foldl (fun s a => s + handOf a) (2 * s) = 2 * l.foldl (fun s a => s + parOf a) s := fun l => by
    induction l with
    | nil => intro s; rfl
    | cons a t ih =>
      intro s
      simp only [List.foldl_cons]
      rw [← ih]
      congr 1
      unfold handOf parOf
      by_cases h2 : a.kind = 2
      · rw [if_pos h2, if_neg (by omega)]; omega
      · rw [if_neg h2]; by_cases h3 : a.kind = 3
        · rw [if_pos h3, if_pos h3]; omega
        · rw [if_neg h3, if_neg h3]; omega
  exact key l 0
theorem par_bounds (l : List PArr) : 0 ≤ parN l ∧ parN l ≤ l.length := by
  have key : ∀ (l : List PArr) (s : Int), s ≤ l.foldl (fun s a => s + parOf a) s ∧ l.foldl (fun s a => s + parOf a) s ≤ s + l.length := fun l => by
    induction l with
    | nil => intro s; simp
    | cons a t ih =>
      intro s
      simp only [List.foldl_cons, List.length_cons]
      have := ih (s + parOf a)
      have h : 0 ≤ parOf a ∧ parOf a ≤ 1 := by unfold parOf; split <;> omega
      omega
  have := key l 0
  unfold parN
  omega
theorem local_bounds {l : List PArr} {k : Nat} (hk : k ≤ l.length) (h : ∀ j a, j < k → l[j]? = some a → arrOk a = true) : 0 ≤ localW (l.take k) ∧ localW (l.take k) ≤ 1000 * k := by
  have hall : (l.take k).all arrOk = true := List.all_eq_true.2 (fun a ha => by
    obtain ⟨j, hj, e⟩ := List.mem_iff_getElem.1 ha
    have hj2 : j < k := by rw [List.length_take] at hj; omega
    exact h j a hj2 (by rw [← e, List.getElem_take]; exact List.getElem?_eq_getElem _))
  have := words_bounds hall k (by rw [List.length_take]; omega)
  rw [List.take_take, Nat.min_self] at this
  omega
theorem arr_cases19 (a : PArr) : (arrOk a = false ∧ ((a.kind ≠ 1 ∧ a.kind ≠ 2 ∧ a.kind ≠ 3) ∨ (a.kind = 2 ∧ a.n < 1) ∨ (a.kind = 2 ∧ 1 ≤ a.n ∧ 1000 < a.n))) ∨ (arrOk a = true ∧ (a.kind = 1 ∨ (a.kind = 2 ∧ 1 ≤ a.n ∧ a.n ≤ 1000) ∨ a.kind = 3)) := by
  rcases arr_cases a with ⟨h, h1⟩ | ⟨h, h1⟩
  · exact .inl ⟨h, by omega⟩
  · exact .inr ⟨h, by omega⟩
def Arrs19 (l : List PArr) (e : Ending) : Prop := ∃ a b, e = .returned (.tuple #[.int .i64 a, .int .i64 b, .bool (arrsFit l)]) ∧ (arrsFit l = true → a = localW l ∧ b = parN l)
theorem Arrs19.no {l : List PArr} (h : arrsFit l = false) (a b : Int) : Arrs19 l (.returned (.tuple #[.int .i64 a, .int .i64 b, .bool false])) := ⟨a, b, by rw [h], fun h2 => by rw [h] at h2; cases h2⟩
set_option maxHeartbeats 8000000 in
set_option maxRecDepth 100000 in
theorem arrays19_any (x : PGr) (vp va vb : Value) (w : World) (h : GrL w vp va vb x) :
    Calls Tryd.prog 47 #[grV x vp va vb] w fun e w' => Arrs19 x.arrays e ∧ Below w.heap.size w w' := by
  obtain ⟨pp, pc, rfl⟩ := h.params.form
  obtain ⟨bp, bc, rfl⟩ := h.blocks.form
  have HL := Lib.hid h.arrays
  obtain ⟨p, c, rfl⟩ := h.arrays.form
  unfold grV
  obtain ⟨l, hll⟩ : ∃ l, l = x.arrays := ⟨_, rfl⟩
  rw [← hll] at HL ⊢
  obtain ⟨n, hn⟩ : ∃ n, n = l.length := ⟨_, rfl⟩
  have HN := Lib.hid hn
  rw [← hn]
  have HX1 := Lib.hid (heap_new w (.cells #[.slice pp x.params.length pc, .int .i64 x.temps, .slice p n c, .slice bp x.blocks.length bc] 26))
  have HB1 := Lib.hid (Graph.below_alloc w (.cells #[.slice pp x.params.length pc, .int .i64 x.temps, .slice p n c, .slice bp x.blocks.length bc] 26))
  by_cases hl : l.length ≤ 500
  case neg =>
    have hr : Hid (arrsFit l = false) := Lib.hid (by unfold arrsFit; rw [decide_eq_false hl, Bool.false_and, Bool.false_and, Bool.false_and])
    rw [← hn] at hl
    have nl : (500 : Int) < n := by omega
    clear h hn hl hll
    go_enter Tryd.func47, Tryd.ntmps47
    go_wp2
    go_ret3
    exact ⟨Arrs19.no hr.out _ _, HB1.out⟩
  rw [← hn] at hl
  have nl : (n : Int) ≤ 500 := by omega
  have HNL := Lib.hid hl
  clear h hn hll
  go_enter Tryd.func47, Tryd.ntmps47
  go_upto_region 1 with (fail)
  generalize w.alloc (.cells #[.slice pp x.params.length pc, .int .i64 x.temps, .slice p n c, .slice bp x.blocks.length bc] 26) = W1 at HX1 HB1 ⊢
  have HBX : Hid (∀ W, Below W1.heap.size W1 W → W.cell? ⟨w.heap.size, 2, none⟩ = some (.slice p n c)) := Lib.hid (fun W hW => by
    have hb := (hW.block _ (Array.getElem?_eq_some_iff.1 HX1.out).1).trans HX1.out
    exact (cell_of_block hb (k := 2) rfl).1)
  have y2 := HBX.out W1 (Below.refl _ _)
  go_wp2
  clear y2
  go_loopw [5, 6, 7] (fun s q i wr => ∃ k : Nat, k ≤ n ∧ s = .int .i64 (localW (l.take k)) ∧ q = .int .i64 (parN (l.take k)) ∧ i = .int .i64 k ∧ Hid (Below W1.heap.size W1 wr) ∧ Hid (∀ j a, j < k → l[j]? = some a → arrOk a = true)) (fun _ _ i _ => n - (intOf i).toNat)
  case atStart => exact ⟨0, Nat.zero_le _, rfl, rfl, rfl, Lib.hid (Below.refl _ _), Lib.hid (fun j a hj => absurd hj (Nat.not_lt_zero _))⟩
  case round =>
    obtain ⟨k, hk, rfl, rfl, rfl, HW, HA⟩ := hrel
    have y2 := HBX.out wr HW.out
    have HLB := Lib.hid (local_bounds (l := l) (k := k) (by have := HN.out; omega) HA.out)
    have HPB : Hid (0 ≤ parN (l.take k) ∧ parN (l.take k) ≤ k) := Lib.hid (by have := par_bounds (l.take k); rw [List.length_take] at this; omega)
    by_cases hkn : k < n
    · obtain ⟨a, ha⟩ : ∃ a, l[k]? = some a := ⟨_, List.getElem?_eq_getElem (by have := HN.out; omega)⟩
      have HLT := Lib.hid (local_take ha)
      have HPT := Lib.hid (par_take ha)
      generalize localW (l.take k) = L at *
      generalize parN (l.take k) = P at *
      obtain ⟨g, o, c', hv, hc0, hc1, hg, hc2, hc3⟩ := arrs_cell (HL.out.below (below_then HB1.out HW.out)) ha
      rw [← HN.out] at hv hc2
      injection hv with e1 _ e3
      subst e1 e3
      have ki : (k : Int) < n := by omega
      have k0 : (0 : Int) ≤ k := by omega
      have k2 : (n : Int) ≤ c := by omega
      have k3 : (c : Int) ≤ 9223372036854775807 := by omega
      have l0 : 0 ≤ L := HLB.out.1
      have l1 : L ≤ 500000 := by have := HLB.out.2; have := HNL.out; omega
      have p0 : 0 ≤ P := HPB.out.1
      have p1 : P ≤ 500 := by have := HPB.out.2; have := HNL.out; omega
      have HNA := Lib.hid (new_arr (w := wr) a.kind a.n)
      have HBA : Hid (Below W1.heap.size W1 (wr.alloc (.cells #[.int .i64 a.kind, .int .i64 a.n] 59))) := Lib.hid (below_then HW.out (Graph.below_alloc wr _))
      have HAK := Lib.hid ha
      have HK1 : Hid (k < n) := Lib.hid hkn
      clear ha hc2 hc3 hkn
      go_upto_region 9 with (fail)
      generalize wr.alloc (.cells #[.int .i64 a.kind, .int .i64 a.n] 59) = W2 at HNA HBA ⊢
      clear hc0 hc1 y2
      obtain ⟨d0, _⟩ := cell_of_block HNA.out (k := 0) rfl
      obtain ⟨d1, _⟩ := cell_of_block HNA.out (k := 1) rfl
      rcases arr_cases19 a with ⟨hno, hh⟩ | ⟨hyes, hh⟩
      · have hr : Hid (arrsFit l = false) := Lib.hid (arrs_not HAK.out hno)
        clear hno HNA
        rcases hh with ⟨h1, h2, h3⟩ | ⟨h2, h4⟩ | ⟨h2, h4, h5⟩
        · have e1 : (a.kind == 1) = false := by simpa using h1
          have e2 : (a.kind == 2) = false := by simpa using h2
          have e3 : (a.kind == 3) = false := by simpa using h3
          clear h1 h2 h3
          go_wp2
          go_ret3
          exact ⟨Arrs19.no hr.out _ _, below_then HB1.out HBA.out⟩
        · have e1 : (a.kind == 1) = false := by simp; omega
          have e2 : (a.kind == 2) = true := by simpa using h2
          clear h2
          go_wp2
          go_ret3
          exact ⟨Arrs19.no hr.out _ _, below_then HB1.out HBA.out⟩
        · have e1 : (a.kind == 1) = false := by simp; omega
          have e2 : (a.kind == 2) = true := by simpa using h2
          clear h2
          go_wp2
          go_ret3
          exact ⟨Arrs19.no hr.out _ _, below_then HB1.out HBA.out⟩
      · have HY : Hid (∀ j b, j < k + 1 → l[j]? = some b → arrOk b = true) := Lib.hid (fun j b hj hb => by
          by_cases e : j = k
          · subst e
            rw [HAK.out] at hb
            injection hb with hb
            rw [← hb]; exact hyes
          · exact HA.out j b (by omega) hb)
        clear hyes HNA
        rcases hh with h1 | ⟨h2, h4, h5⟩ | h3
        · have e1 : (a.kind == 1) = true := by simpa using h1
          have hL : Hid (localW (l.take (k + 1)) = L) := Lib.hid (by rw [HLT.out]; unfold localOf; rw [if_neg (by omega)]; omega)
          have hP : Hid (parN (l.take (k + 1)) = P) := Lib.hid (by rw [HPT.out]; unfold parOf; rw [if_neg (by omega)]; omega)
          clear h1
          go_wp2
          exact ⟨⟨k + 1, by have := HK1.out; omega, by rw [hL.out], by rw [hP.out], by go_num, HBA, HY⟩, by have := HK1.out; simp [intOf]; omega⟩
        · have e1 : (a.kind == 1) = false := by simp; omega
          have e2 : (a.kind == 2) = true := by simpa using h2
          have hL : Hid (localW (l.take (k + 1)) = L + a.n) := Lib.hid (by rw [HLT.out]; unfold localOf; rw [if_pos h2])
          have hP : Hid (parN (l.take (k + 1)) = P) := Lib.hid (by rw [HPT.out]; unfold parOf; rw [if_neg (by omega)]; omega)
          clear h2
          go_wp2
          exact ⟨⟨k + 1, by have := HK1.out; omega, by rw [hL.out], by rw [hP.out], by go_num, HBA, HY⟩, by have := HK1.out; simp [intOf]; omega⟩
        · have e1 : (a.kind == 1) = false := by simp; omega
          have e2 : (a.kind == 2) = false := by simp; omega
          have e3 : (a.kind == 3) = true := by simpa using h3
          have hL : Hid (localW (l.take (k + 1)) = L) := Lib.hid (by rw [HLT.out]; unfold localOf; rw [if_neg (by omega)]; omega)
          have hP : Hid (parN (l.take (k + 1)) = P + 1) := Lib.hid (by rw [HPT.out]; unfold parOf; rw [if_pos h3])
          clear h3
          go_wp2
          exact ⟨⟨k + 1, by have := HK1.out; omega, by rw [hL.out], by rw [hP.out], by go_num, HBA, HY⟩, by have := HK1.out; simp [intOf]; omega⟩
    · have hkn2 : k = n := by omega
      have ki : ¬ ((k : Int) < n) := by omega
      have hall : l.all arrOk = true := List.all_eq_true.2 (fun a ha => by
        obtain ⟨j, hj, e⟩ := List.mem_iff_getElem.1 ha
        exact HA.out j a (by have := HN.out; omega) (by rw [List.getElem?_eq_getElem hj, e]))
      have etk : l.take k = l := List.take_of_length_le (by have := HN.out; omega)
      rw [etk] at HLB HPB ⊢
      have HR : Hid (arrsFit l = (decide (localW l ≤ 1000) && decide (parN l ≤ 8))) := Lib.hid (by
        unfold arrsFit
        rw [decide_eq_true (by have := HN.out; omega), hall, hand_par]
        have : (decide (2 * parN l ≤ 16)) = decide (parN l ≤ 8) := by
          rw [Bool.eq_iff_iff, decide_eq_true_eq, decide_eq_true_eq]; omega
        rw [this]; simp)
      have HFIN : Hid (∀ b : Bool, arrsFit l = b → Arrs19 l (.returned (.tuple #[.int .i64 (localW l), .int .i64 (parN l), .bool b]))) := Lib.hid (fun b hb => ⟨_, _, by rw [hb], fun _ => ⟨rfl, rfl⟩⟩)
      generalize localW l = L at *
      generalize parN l = P at *
      clear hall etk
      by_cases hL : L ≤ 1000
      · by_cases hP : P ≤ 8
        · have hr : Hid (arrsFit l = true) := Lib.hid (by rw [HR.out, decide_eq_true hL, decide_eq_true hP]; rfl)
          go_wp2
          go_ret3
          exact ⟨HFIN.out _ hr.out, below_then HB1.out HW.out⟩
        · have hr : Hid (arrsFit l = false) := Lib.hid (by rw [HR.out, decide_eq_false hP, Bool.and_false])
          have hP2 : 8 < P := by omega
          go_wp2
          go_ret3
          exact ⟨HFIN.out _ hr.out, below_then HB1.out HW.out⟩
      · have hr : Hid (arrsFit l = false) := Lib.hid (by rw [HR.out, decide_eq_false hL, Bool.false_and])
        have hL2 : 1000 < L := by omega
        go_wp2
        go_ret3
        exact ⟨HFIN.out _ hr.out, below_then HB1.out HW.out⟩
end Go.Proofs.YtcijaaiopfbffaaDoor.Live
namespace Go.Proofs.YtcijaaiopfbffaaDoor.Live
open Go.RowKit Go.Proofs.YtcijaaiopfbffaaDoor.Graph Go.Shelf

set_option maxHeartbeats 8000000 in
set_option maxRecDepth 100000 in
theorem may19_any (x : PGr) (vp va vb : Value) (w : World) (h : GrL w vp va vb x) (hs : SmG x) :
    Calls Tryd.prog 46 #[grV x vp va vb] w (Is (.bool (frameFit x)) w) := by
  have HFI := Lib.hid (fun (W : World) (hW : Below w.heap.size w W) => fits13_any x _ _ _ W (h.below hW) hs)
  have HAR := Lib.hid (fun (W : World) (hW : Below w.heap.size w W) => arrays19_any x _ _ _ W (h.below hW))
  obtain ⟨ap, ac, rfl⟩ := h.arrays.form
  obtain ⟨bp, bc, rfl⟩ := h.blocks.form
  have HP := Lib.hid h.params
  obtain ⟨p, c, rfl⟩ := h.params.form
  unfold grV at HFI HAR ⊢
  obtain ⟨n, hn⟩ : ∃ n, n = x.params.length := ⟨_, rfl⟩
  have HN := Lib.hid hn
  rw [← hn] at HFI HAR ⊢
  unfold Arrs19 at HAR
  have HX1 := Lib.hid (heap_new w (.cells #[.slice p n c, .int .i64 x.temps, .slice ap x.arrays.length ac, .slice bp x.blocks.length bc] 26))
  have HB1 := Lib.hid (Graph.below_alloc w (.cells #[.slice p n c, .int .i64 x.temps, .slice ap x.arrays.length ac, .slice bp x.blocks.length bc] 26))
  have HFF : Hid (frameFit x = (fitsB x && (parsFit x.temps x.params && arrsFit x.arrays))) := Lib.hid rfl
  have HTT : Hid (fitsB x = true → 0 ≤ x.temps ∧ x.temps ≤ 8000) := Lib.hid (fun hf => by
    unfold fitsB at hf
    rw [Bool.and_eq_true, decide_eq_true_eq] at hf
    exact hf.1.2.2)
  clear h hs hn
  cases hf : fitsB x <;> rw [hf] at HFI HFF HTT <;> cases ha : arrsFit x.arrays <;> rw [ha] at HAR HFF <;> clear hf ha
  · have hr : Hid (frameFit x = false) := Lib.hid (by rw [HFF.out, Bool.false_and])
    go_enter Tryd.func46, Tryd.ntmps46
    go_upto_region 1 with (fail)
    generalize w.alloc (.cells #[.slice p n c, .int .i64 x.temps, .slice ap x.arrays.length ac, .slice bp x.blocks.length bc] 26) = W1 at HX1 HB1 ⊢
    have HBX : Hid (∀ W, Below W1.heap.size W1 W → W.cell? ⟨w.heap.size, 0, none⟩ = some (.slice p n c) ∧ W.cell? ⟨w.heap.size, 1, none⟩ = some (.int .i64 x.temps) ∧ W.cell? ⟨w.heap.size, 2, none⟩ = some (.slice ap x.arrays.length ac) ∧ W.cell? ⟨w.heap.size, 3, none⟩ = some (.slice bp x.blocks.length bc)) := Lib.hid (fun W hW => by
      have hb := (hW.block _ (Array.getElem?_eq_some_iff.1 HX1.out).1).trans HX1.out
      exact ⟨(cell_of_block hb (k := 0) rfl).1, (cell_of_block hb (k := 1) rfl).1, (cell_of_block hb (k := 2) rfl).1, (cell_of_block hb (k := 3) rfl).1⟩)
    obtain ⟨y0, y1, y2, y3⟩ := HBX.out W1 (Below.refl _ _)
    go_wp2_with (first
      | (go_at_call 17
         refine (HFI.out _ HB1.out).mono ?_
         rintro e w2 ⟨rfl, hb2⟩
         have HB2 := Lib.hid hb2
         obtain ⟨z0, z1, z2, z3⟩ := HBX.out w2 hb2
         clear hb2)
      | (go_at_call 47
         refine (HAR.out _ (below_then HB1.out HB2.out)).mono ?_
         rintro e w3 ⟨⟨a19, b19, rfl, _⟩, hb3⟩
         have HB3 : Hid (Below W1.heap.size W1 w3) := Lib.hid (below_then HB2.out hb3)
         obtain ⟨x0, x1, x2, x3⟩ := HBX.out w3 HB3.out
         clear hb3))
    go_ret
    exact ⟨by rw [hr.out]; rfl, below_then HB1.out HB3.out⟩
  · have hr : Hid (frameFit x = false) := Lib.hid (by rw [HFF.out, Bool.false_and])
    go_enter Tryd.func46, Tryd.ntmps46
    go_upto_region 1 with (fail)
    generalize w.alloc (.cells #[.slice p n c, .int .i64 x.temps, .slice ap x.arrays.length ac, .slice bp x.blocks.length bc] 26) = W1 at HX1 HB1 ⊢
    have HBX : Hid (∀ W, Below W1.heap.size W1 W → W.cell? ⟨w.heap.size, 0, none⟩ = some (.slice p n c) ∧ W.cell? ⟨w.heap.size, 1, none⟩ = some (.int .i64 x.temps) ∧ W.cell? ⟨w.heap.size, 2, none⟩ = some (.slice ap x.arrays.length ac) ∧ W.cell? ⟨w.heap.size, 3, none⟩ = some (.slice bp x.blocks.length bc)) := Lib.hid (fun W hW => by
      have hb := (hW.block _ (Array.getElem?_eq_some_iff.1 HX1.out).1).trans HX1.out
      exact ⟨(cell_of_block hb (k := 0) rfl).1, (cell_of_block hb (k := 1) rfl).1, (cell_of_block hb (k := 2) rfl).1, (cell_of_block hb (k := 3) rfl).1⟩)
    obtain ⟨y0, y1, y2, y3⟩ := HBX.out W1 (Below.refl _ _)
    go_wp2_with (first
      | (go_at_call 17
         refine (HFI.out _ HB1.out).mono ?_
         rintro e w2 ⟨rfl, hb2⟩
         have HB2 := Lib.hid hb2
         obtain ⟨z0, z1, z2, z3⟩ := HBX.out w2 hb2
         clear hb2)
      | (go_at_call 47
         refine (HAR.out _ (below_then HB1.out HB2.out)).mono ?_
         rintro e w3 ⟨⟨a19, b19, rfl, _⟩, hb3⟩
         have HB3 : Hid (Below W1.heap.size W1 w3) := Lib.hid (below_then HB2.out hb3)
         obtain ⟨x0, x1, x2, x3⟩ := HBX.out w3 HB3.out
         clear hb3))
    go_ret
    exact ⟨by rw [hr.out]; rfl, below_then HB1.out HB3.out⟩
  · have hr : Hid (frameFit x = false) := Lib.hid (by rw [HFF.out, Bool.and_false, Bool.and_false])
    go_enter Tryd.func46, Tryd.ntmps46
    go_upto_region 1 with (fail)
    generalize w.alloc (.cells #[.slice p n c, .int .i64 x.temps, .slice ap x.arrays.length ac, .slice bp x.blocks.length bc] 26) = W1 at HX1 HB1 ⊢
    have HBX : Hid (∀ W, Below W1.heap.size W1 W → W.cell? ⟨w.heap.size, 0, none⟩ = some (.slice p n c) ∧ W.cell? ⟨w.heap.size, 1, none⟩ = some (.int .i64 x.temps) ∧ W.cell? ⟨w.heap.size, 2, none⟩ = some (.slice ap x.arrays.length ac) ∧ W.cell? ⟨w.heap.size, 3, none⟩ = some (.slice bp x.blocks.length bc)) := Lib.hid (fun W hW => by
      have hb := (hW.block _ (Array.getElem?_eq_some_iff.1 HX1.out).1).trans HX1.out
      exact ⟨(cell_of_block hb (k := 0) rfl).1, (cell_of_block hb (k := 1) rfl).1, (cell_of_block hb (k := 2) rfl).1, (cell_of_block hb (k := 3) rfl).1⟩)
    obtain ⟨y0, y1, y2, y3⟩ := HBX.out W1 (Below.refl _ _)
    go_wp2_with (first
      | (go_at_call 17
         refine (HFI.out _ HB1.out).mono ?_
         rintro e w2 ⟨rfl, hb2⟩
         have HB2 := Lib.hid hb2
         obtain ⟨z0, z1, z2, z3⟩ := HBX.out w2 hb2
         clear hb2)
      | (go_at_call 47
         refine (HAR.out _ (below_then HB1.out HB2.out)).mono ?_
         rintro e w3 ⟨⟨a19, b19, rfl, _⟩, hb3⟩
         have HB3 : Hid (Below W1.heap.size W1 w3) := Lib.hid (below_then HB2.out hb3)
         obtain ⟨x0, x1, x2, x3⟩ := HBX.out w3 HB3.out
         clear hb3))
    go_ret
    exact ⟨by rw [hr.out]; rfl, below_then HB1.out HB3.out⟩
  · have HFT : Hid (frameFit x = parsFit x.temps x.params) := Lib.hid (by rw [HFF.out, Bool.and_true, Bool.true_and])
    obtain ⟨ht0, ht1⟩ := HTT.out rfl
    by_cases hl : x.params.length ≤ 8
    case neg =>
      have hr : Hid (frameFit x = false) := Lib.hid (by rw [HFT.out]; unfold parsFit; rw [decide_eq_false hl, Bool.false_and])
      rw [← HN.out] at hl
      have nl : (8 : Int) < n := by omega
      clear hl
      go_enter Tryd.func46, Tryd.ntmps46
      go_upto_region 1 with (fail)
      generalize w.alloc (.cells #[.slice p n c, .int .i64 x.temps, .slice ap x.arrays.length ac, .slice bp x.blocks.length bc] 26) = W1 at HX1 HB1 ⊢
      have HBX : Hid (∀ W, Below W1.heap.size W1 W → W.cell? ⟨w.heap.size, 0, none⟩ = some (.slice p n c) ∧ W.cell? ⟨w.heap.size, 1, none⟩ = some (.int .i64 x.temps) ∧ W.cell? ⟨w.heap.size, 2, none⟩ = some (.slice ap x.arrays.length ac) ∧ W.cell? ⟨w.heap.size, 3, none⟩ = some (.slice bp x.blocks.length bc)) := Lib.hid (fun W hW => by
        have hb := (hW.block _ (Array.getElem?_eq_some_iff.1 HX1.out).1).trans HX1.out
        exact ⟨(cell_of_block hb (k := 0) rfl).1, (cell_of_block hb (k := 1) rfl).1, (cell_of_block hb (k := 2) rfl).1, (cell_of_block hb (k := 3) rfl).1⟩)
      obtain ⟨y0, y1, y2, y3⟩ := HBX.out W1 (Below.refl _ _)
      go_wp2_with (first
        | (go_at_call 17
           refine (HFI.out _ HB1.out).mono ?_
           rintro e w2 ⟨rfl, hb2⟩
           have HB2 := Lib.hid hb2
           obtain ⟨z0, z1, z2, z3⟩ := HBX.out w2 hb2
           clear hb2)
        | (go_at_call 47
           refine (HAR.out _ (below_then HB1.out HB2.out)).mono ?_
           rintro e w3 ⟨⟨a19, b19, rfl, _⟩, hb3⟩
           have HB3 : Hid (Below W1.heap.size W1 w3) := Lib.hid (below_then HB2.out hb3)
           obtain ⟨x0, x1, x2, x3⟩ := HBX.out w3 HB3.out
           clear hb3))
      go_ret
      exact ⟨by rw [hr.out]; rfl, below_then HB1.out HB3.out⟩
    rw [← HN.out] at hl
    have nl : (n : Int) ≤ 8 := by omega

    go_enter Tryd.func46, Tryd.ntmps46
    go_upto_region 1 with (fail)
    generalize w.alloc (.cells #[.slice p n c, .int .i64 x.temps, .slice ap x.arrays.length ac, .slice bp x.blocks.length bc] 26) = W1 at HX1 HB1 ⊢
    have HBX : Hid (∀ W, Below W1.heap.size W1 W → W.cell? ⟨w.heap.size, 0, none⟩ = some (.slice p n c) ∧ W.cell? ⟨w.heap.size, 1, none⟩ = some (.int .i64 x.temps) ∧ W.cell? ⟨w.heap.size, 2, none⟩ = some (.slice ap x.arrays.length ac) ∧ W.cell? ⟨w.heap.size, 3, none⟩ = some (.slice bp x.blocks.length bc)) := Lib.hid (fun W hW => by
      have hb := (hW.block _ (Array.getElem?_eq_some_iff.1 HX1.out).1).trans HX1.out
      exact ⟨(cell_of_block hb (k := 0) rfl).1, (cell_of_block hb (k := 1) rfl).1, (cell_of_block hb (k := 2) rfl).1, (cell_of_block hb (k := 3) rfl).1⟩)
    obtain ⟨y0, y1, y2, y3⟩ := HBX.out W1 (Below.refl _ _)
    go_upto_region 6 with (first
      | (go_at_call 17
         refine (HFI.out _ HB1.out).mono ?_
         rintro e w2 ⟨rfl, hb2⟩
         have HB2 := Lib.hid hb2
         obtain ⟨z0, z1, z2, z3⟩ := HBX.out w2 hb2
         clear hb2)
      | (go_at_call 47
         refine (HAR.out _ (below_then HB1.out HB2.out)).mono ?_
         rintro e w3 ⟨⟨a19, b19, rfl, _⟩, hb3⟩
         have HB3 : Hid (Below W1.heap.size W1 w3) := Lib.hid (below_then HB2.out hb3)
         obtain ⟨x0, x1, x2, x3⟩ := HBX.out w3 HB3.out
         clear hb3))
    clear y0 y1 y2 y3 z0 z1 z2 z3
    go_loopw [7] (fun i wr => ∃ k : Nat, k ≤ n ∧ i = .int .i64 k ∧ Hid (Below W1.heap.size W1 wr) ∧ Hid (∀ j, j < k → parOk x.temps x.params j = true)) (fun i _ => n - (intOf i).toNat)
    case atStart => exact ⟨0, Nat.zero_le _, rfl, HB3, Lib.hid (fun j hj => absurd hj (Nat.not_lt_zero _))⟩
    case round =>
      obtain ⟨k, hk, rfl, HW, HA⟩ := hrel
      clear x0 x1 x2 x3
      obtain ⟨x0, x1, x2, x3⟩ := HBX.out wr HW.out
      have HPW := Lib.hid (HP.out.below (below_then HB1.out HW.out))
      by_cases hkn : k < n
      · obtain ⟨a, ha⟩ : ∃ a, x.params[k]? = some a := ⟨_, List.getElem?_eq_getElem (by have := HN.out; omega)⟩
        obtain ⟨g, o, c', hv, hc0, hg, hc2, hc3⟩ := ints_cell HPW.out ha
        rw [← HN.out] at hv hc2
        injection hv with e1 _ e3
        subst e1 e3
        have ki : (k : Int) < n := by omega
        have k0 : (0 : Int) ≤ k := by omega
        have k2 : (n : Int) ≤ c := by omega
        have k3 : (c : Int) ≤ 9223372036854775807 := by omega
        have HOK := Lib.hid (parOk_at (m := x.temps) ha)
        have HLT : Hid (k < x.params.length) := Lib.hid (by have := HN.out; omega)
        have HK1 : Hid (k < n) := Lib.hid hkn
        have HCE : Hid (∀ j b, x.params[j]? = some b → wr.cell? ⟨g, o + j, none⟩ = some (.int .i64 b)) := Lib.hid (fun j b hj => by
          obtain ⟨g', o', c'', hv', hc', _⟩ := ints_cell HPW.out hj
          injection hv' with e1 _ _
          injection e1 with e1
          injection e1 with e1 e2 _
          subst e1 e2
          exact hc')
        have HAK := Lib.hid ha
        clear ha hc2 hc3 hkn
        by_cases a0 : a < 0
        · have hr : Hid (frameFit x = false) := Lib.hid (by rw [HFT.out]; exact pars_not HLT.out (by rw [HOK.out]; unfold belowB; rw [decide_eq_false (by omega)]; rfl))
          have d0 : decide (a < 0) = true := decide_eq_true a0
          go_upto_region 8 with (fail)
          go_quiet (fail)
          go_wp2
          go_ret
          exact ⟨by rw [hr.out]; rfl, below_then HB1.out (below_then HW.out (by first | exact Below.refl _ _ | exact (Below.refl _ _).drew | exact Graph.below_drewN _ _))⟩
        by_cases a1 : x.temps ≤ a
        · have hr : Hid (frameFit x = false) := Lib.hid (by rw [HFT.out]; exact pars_not HLT.out (by rw [HOK.out]; unfold belowB; rw [decide_eq_false (show ¬ a < x.temps by omega), Bool.and_false, Bool.false_and]))
          have d0 : decide (a < 0) = false := decide_eq_false a0
          go_upto_region 8 with (fail)
          go_quiet (fail)
          go_wp2
          go_ret
          exact ⟨by rw [hr.out]; rfl, below_then HB1.out (below_then HW.out (by first | exact Below.refl _ _ | exact (Below.refl _ _).drew | exact Graph.below_drewN _ _))⟩
        have hbl : belowB a x.temps = true := by unfold belowB; simp; omega
        rw [hbl, Bool.true_and] at HOK
        clear hbl
        have d0 : decide (a < 0) = false := decide_eq_false a0
        have a00 : 0 ≤ a := by omega
        have a11 : a < x.temps := by omega
        clear a0 a1
        go_upto_region 8 with (fail)
        go_cut [51] from 36 to 51 (fun v wq => v = .bool false ∧ Hid (Below wr.heap.size wr wq))
        case first =>
          go_quiet (fail)
          all_goals
            go_wp2
            go_meet
            exact ⟨by simp; try omega, Lib.hid (by first | exact Below.refl _ _ | exact (Below.refl _ _).drew | exact Graph.below_drewN _ _)⟩
        case rest =>
          obtain ⟨rfl, HQ⟩ := hcut
          have HW2 : Hid (Below W1.heap.size W1 wc) := Lib.hid (below_then HW.out HQ.out)
          clear hc0 x0 x1 x2 x3 d0
          go_wp2
          go_loopw [8] (fun i wq => ∃ j : Nat, j ≤ k ∧ i = .int .i64 j ∧ Hid (Below wr.heap.size wr wq) ∧ Hid (∀ q, q < j → x.params[q]? ≠ some a)) (fun i _ => k - (intOf i).toNat)
          case atStart => exact ⟨0, Nat.zero_le _, rfl, HQ, Lib.hid (fun q hq => absurd hq (Nat.not_lt_zero _))⟩
          case round =>
            obtain ⟨j, hj, rfl, HW3, HD⟩ := hrel
            obtain ⟨x0, x1, x2, x3⟩ := HBX.out wr (below_then HW.out HW3.out)
            by_cases hjk : j < k
            · obtain ⟨b, hb⟩ : ∃ b, x.params[j]? = some b := ⟨_, List.getElem?_eq_getElem (by have := HLT.out; omega)⟩
              have c1 := (cell_below HW3.out hg (o + j)).trans (HCE.out j b hb)
              have c2 := (cell_below HW3.out hg (o + k)).trans (HCE.out k a HAK.out)
              have jk : (j : Int) < k := by omega
              have j0 : (0 : Int) ≤ j := by omega
              have jn : (j : Int) < n := by omega
              have HBJ := Lib.hid hb
              clear hb
              by_cases hba : b = a
              · have hr : Hid (frameFit x = false) := Lib.hid (by
                  rw [HFT.out]
                  refine pars_not HLT.out ?_
                  rw [HOK.out]
                  have : (x.params.take k).contains a = true := by
                    rw [List.contains_iff_mem]
                    rw [← hba]
                    exact List.mem_iff_getElem?.2 ⟨j, by rw [List.getElem?_take, if_pos hjk]; exact HBJ.out⟩
                  rw [this]; rfl)
                have e9 : (b == a) = true := by simpa using hba
                clear hba
                go_upto_region 13 with (fail)
                go_quiet (fail)
                go_wp2
                go_ret
                exact ⟨by rw [hr.out]; rfl, below_then HB1.out (below_then HW.out (below_then HW3.out (by first | exact Below.refl _ _ | exact (Below.refl _ _).drew | exact Graph.below_drewN _ _)))⟩
              · have e9 : (b == a) = false := by simpa using hba
                have HNE : Hid (∀ q, q < j + 1 → x.params[q]? ≠ some a) := Lib.hid (fun q hq => by
                  by_cases e : q = j
                  · subst e
                    rw [HBJ.out]
                    intro e2; injection e2 with e2; exact hba e2
                  · exact HD.out q (by omega))
                clear hba
                go_upto_region 13 with (fail)
                go_quiet (fail)
                go_wp2
                exact ⟨⟨j + 1, by omega, by go_num, Lib.hid (below_then HW3.out (by first | exact Below.refl _ _ | exact (Below.refl _ _).drew | exact Graph.below_drewN _ _)), HNE⟩, by simp [intOf]; omega⟩
            · have hjk2 : j = k := by omega
              have jk : ¬ ((j : Int) < k) := by omega
              have HY : Hid (∀ j, j < k + 1 → parOk x.temps x.params j = true) := Lib.hid (fun q hq => by
                by_cases e : q = k
                · subst e
                  rw [HOK.out]
                  have : (x.params.take q).contains a = false := by
                    rw [Bool.eq_false_iff]
                    intro h
                    rw [List.contains_iff_mem] at h
                    obtain ⟨i, hi⟩ := List.mem_iff_getElem?.1 h
                    rw [List.getElem?_take] at hi
                    split at hi
                    · exact HD.out i (by omega) hi
                    · cases hi
                  rw [this]; rfl
                · exact HA.out q (by omega))
              have HWE : Hid (Below W1.heap.size W1 wr) := Lib.hid (below_then HW.out HW3.out)
              go_wp2
              exact ⟨⟨k + 1, by have := HK1.out; omega, by go_num, HWE, HY⟩, by have := HK1.out; simp [intOf]; omega⟩
      · have hkn2 : k = n := by omega
        have hki : ¬ ((k : Int) < n) := by omega
        have hr : Hid (frameFit x = true) := Lib.hid (by
          rw [HFT.out]
          unfold parsFit
          rw [decide_eq_true (by have := HN.out; omega), Bool.true_and, List.all_eq_true]
          exact fun j hj => HA.out j (by have := List.mem_range.1 hj; have := HN.out; omega))
        go_wp2
        go_ret
        exact ⟨by rw [hr.out]; rfl, below_then HB1.out HW.out⟩
end Go.Proofs.YtcijaaiopfbffaaDoor.Live
namespace Go.Proofs.YtcijaaiopfbffaaDoor.Live
open Go.RowKit Go.Proofs.YtcijaaiopfbffaaDoor.Graph Go.Shelf

/-- Which registers are kept, as it lies. -/
def KRow (w : World) (g : Nat) (U : Nat → Bool) : Prop :=
  ∃ cs, w.heap[g]? = some (.cells cs 93 (0, 0)) ∧ cs.size = 9 ∧ ∀ i, i < 9 → cs[i]? = some (.bool (U i))
def kb (U : Nat → Bool) (t : Nat) (r : Bool) : Nat → Bool := fun i => if i = t then r else U i
section
variable {w w' : World} {g : Nat} {U : Nat → Bool}
theorem KRow.lt (h : KRow w g U) : g < w.heap.size := by
  obtain ⟨cs, h1, _⟩ := h
  exact (Array.getElem?_eq_some_iff.1 h1).1
theorem KRow.cell (h : KRow w g U) {b : Nat} (hb : b < 9) : w.cell? ⟨g, b, none⟩ = some (.bool (U b)) ∧ w.frozen? ⟨g, b, none⟩ = false := by
  obtain ⟨cs, h1, _, h3⟩ := h
  exact ⟨by simp [World.cell?, h1, h3 b hb], by simp [World.frozen?, h1]⟩
theorem KRow.keep (h : KRow w g U) (he : w'.heap[g]? = w.heap[g]?) : KRow w' g U := by
  obtain ⟨cs, h1, h2⟩ := h
  exact ⟨cs, he.trans h1, h2⟩
theorem KRow.set (h : KRow w g U) {t : Nat} (r : Bool) : KRow (w.setCell ⟨g, t, none⟩ (.bool r)) g (kb U t r) := by
  obtain ⟨cs, h1, h2, h3⟩ := h
  refine ⟨_, heap_setCell_same w g _ _ _ _ h1, by simpa using h2, fun c hc => ?_⟩
  have h4 := h3 c hc
  unfold kb
  by_cases e : c = t
  · subst e
    rw [Array.getElem?_setIfInBounds_self_of_lt (Array.getElem?_eq_some_iff.1 h4).1]; simp
  · rw [Array.getElem?_setIfInBounds_ne (Ne.symm e), if_neg e]; exact h4
theorem KRow.made (w : World) : KRow (w.alloc (.cells #[.bool false, .bool false, .bool false, .bool false, .bool false, .bool false, .bool false, .bool false, .bool false] 93)) w.heap.size (fun _ => false) := by
  refine ⟨_, heap_new w _, rfl, fun i hi => ?_⟩
  obtain rfl | rfl | rfl | rfl | rfl | rfl | rfl | rfl | rfl : i = 0 ∨ i = 1 ∨ i = 2 ∨ i = 3 ∨ i = 4 ∨ i = 5 ∨ i = 6 ∨ i = 7 ∨ i = 8 := by omega
  all_goals rfl
end
theorem kp_nz (K : Nat → Int) (t r : Int) (hr : r ≠ 0) (i : Nat) : kp K t r i ≠ 0 ↔ K i ≠ 0 ∨ t = (i : Int) := by
  unfold kp
  by_cases e : (i : Int) = t
  · rw [if_pos e]; exact ⟨fun _ => .inr e.symm, fun _ => hr⟩
  · rw [if_neg e]; exact ⟨fun h => .inl h, fun h => h.elim id (fun h => absurd h.symm e)⟩
theorem fold_nz {α : Type} {f : (Nat → Int) → α → Nat → Int} {i : Nat} {c : α → Prop} (hf : ∀ K z, f K z i ≠ 0 ↔ K i ≠ 0 ∨ c z) : ∀ (l : List α) (K : Nat → Int), l.foldl f K i ≠ 0 ↔ K i ≠ 0 ∨ ∃ z ∈ l, c z
  | [], K => by simp
  | z :: t, K => by
    rw [List.foldl_cons, fold_nz hf t, hf]
    constructor
    · rintro ((h | h) | ⟨y, hy, h⟩)
      · exact .inl h
      · exact .inr ⟨z, List.mem_cons_self, h⟩
      · exact .inr ⟨y, List.mem_cons_of_mem _ hy, h⟩
    · rintro (h | ⟨y, hy, h⟩)
      · exact .inl (.inl h)
      · rcases List.mem_cons.1 hy with rfl | hy
        · exact .inl (.inr h)
        · exact .inr ⟨y, hy, h⟩
/-- A register is kept, as the document says it. -/
def keptD (g : PGr) (nl : List Int) (i : Nat) : Prop :=
  ((i : Int) ∈ nl ∨ (i : Int) ∈ g.params) ∨ (∃ blk ∈ g.blocks, ∃ y ∈ blk.code, setsI y = (i : Int)) ∨ ((∃ a ∈ g.arrays, a.kind = 2) ∧ i = 0)
theorem kall_iff {g : PGr} (hf : fitsB g = true) (nl : List Int) (i : Nat) : kAll g nl i ≠ 0 ↔ keptD g nl i := by
  unfold kAll keptD
  rw [fold_nz (c := fun a : PArr => a.kind = 2 ∧ i = 0) (fun K a => by
      unfold kArr
      by_cases h : a.kind = 2
      · rw [if_pos h, kp_nz _ _ _ (by decide)]
        exact ⟨fun h2 => h2.elim .inl (fun e => .inr ⟨h, by omega⟩), fun h2 => h2.elim .inl (fun e => .inr (by omega))⟩
      · rw [if_neg h]; exact ⟨.inl, fun h2 => h2.elim id (fun e => absurd e.1 h)⟩),
    fold_nz (f := kNeed) (c := fun p : Int => p = (i : Int)) (fun K p => kp_nz K p 3 (by decide) i),
    fold_nz (f := kPar) (c := fun p : Int => p = (i : Int)) (fun K p => kp_nz K p 2 (by decide) i),
    fold_nz (c := fun b : PBlk => ∃ y ∈ b.code, setsT y = true ∧ y.d = (i : Int)) (fun K b => by
      unfold kBlk
      rw [fold_nz (c := fun y : PIns => setsT y = true ∧ y.d = (i : Int)) (fun K y => by
        unfold kIns
        by_cases h : setsT y = true
        · rw [if_pos h, kp_nz _ _ _ (by decide)]
          exact ⟨fun h2 => h2.elim .inl (fun e => .inr ⟨h, e⟩), fun h2 => h2.elim .inl (fun e => .inr e.2)⟩
        · rw [if_neg h]; exact ⟨.inl, fun h2 => h2.elim id (fun e => absurd e.1 h)⟩)])]
  have hs : ∀ blk ∈ g.blocks, ∀ y ∈ blk.code, (setsT y = true ∧ y.d = (i : Int)) ↔ setsI y = (i : Int) := fun blk hb y hy => by
    obtain ⟨b, hb2, e⟩ := List.mem_iff_getElem.1 hb
    have h1 := (fits_blk hf (show g.blocks[b]? = some blk by rw [List.getElem?_eq_getElem hb2, e])).1
    unfold blkFit at h1
    rw [Bool.and_eq_true, List.all_eq_true] at h1
    have h2 := h1.1 y hy
    unfold insFit at h2
    simp only [Bool.and_eq_true, decide_eq_true_eq] at h2
    exact (sets_same ⟨h2.1.1.1, h2.1.1.2⟩ (by omega)).symm
  constructor
  · rintro ((((h | ⟨blk, hb, y, hy, h⟩) | ⟨p, hp, rfl⟩) | ⟨p, hp, rfl⟩) | ⟨a, ha, h⟩)
    · exact absurd rfl h
    · exact .inr (.inl ⟨blk, hb, y, hy, (hs blk hb y hy).1 h⟩)
    · exact .inl (.inr hp)
    · exact .inl (.inl hp)
    · exact .inr (.inr ⟨⟨a, ha, h.1⟩, h.2⟩)
  · rintro ((h | h) | ⟨blk, hb, y, hy, h⟩ | ⟨⟨a, ha, h⟩, h2⟩)
    · exact .inl (.inr ⟨_, h, rfl⟩)
    · exact .inl (.inl (.inr ⟨_, h, rfl⟩))
    · exact .inl (.inl (.inl (.inr ⟨blk, hb, y, hy, (hs blk hb y hy).2 h⟩)))
    · exact .inr ⟨a, ha, h, h2⟩
theorem regs_filter {g : PGr} (hf : fitsB g = true) {U : Nat → Bool} (hU : ∀ i, i < 9 → (U i = true ↔ keptD g (needL g 0) i)) : (List.range 9).filter U = regsOf g := by
  unfold regsOf regQ
  refine List.filter_congr fun i hi => ?_
  have h1 := hU i (List.mem_range.1 hi)
  rw [← kall_iff hf] at h1
  rw [Bool.eq_iff_iff, h1, bne_iff_ne]
/-- Words of local arrays, above 0 just if there is one. -/
theorem local_pos {l : List PArr} (h : l.all arrOk = true) : 0 < localW l ↔ ∃ a ∈ l, a.kind = 2 := by
  have key : ∀ (l : List PArr) (s : Int), l.all arrOk = true → 0 ≤ s → (0 < l.foldl (fun s a => s + localOf a) s ↔ 0 < s ∨ ∃ a ∈ l, a.kind = 2) := fun l => by
    induction l with
    | nil => intro s _ _; simp
    | cons a t ih =>
      intro s ha hs
      rw [List.all_cons, Bool.and_eq_true] at ha
      have hb := arr_bounds ha.1
      rw [List.foldl_cons, ih _ ha.2 (by omega)]
      have h2 : 0 < localOf a ↔ a.kind = 2 := by
        have h3 := ha.1
        unfold arrOk at h3
        simp only [Bool.and_eq_true, Bool.or_eq_true, Bool.not_eq_true', decide_eq_true_eq, beq_eq_false_iff_ne, ne_eq] at h3
        unfold localOf
        split <;> omega
      constructor
      · rintro (h | ⟨b, hb2, h⟩)
        · by_cases e : a.kind = 2
          · exact .inr ⟨a, List.mem_cons_self, e⟩
          · have : ¬ 0 < localOf a := fun h => e (h2.1 h)
            exact .inl (by omega)
        · exact .inr ⟨b, List.mem_cons_of_mem _ hb2, h⟩
      · rintro (h | ⟨b, hb2, h⟩)
        · exact .inl (by omega)
        · rcases List.mem_cons.1 hb2 with rfl | hb2
          · have := h2.2 h
            exact .inl (by omega)
          · exact .inr ⟨b, hb2, h⟩
  have := key l 0 h (Int.le_refl _)
  unfold localW
  rw [this]
  simp
set_option maxHeartbeats 8000000 in
set_option maxRecDepth 100000 in
theorem lay19_no (x : PGr) (vp va vb : Value) (w : World) (h : GrL w vp va vb x) (hs : SmG x) (hff : frameFit x = false) :
    Calls Tryd.prog 23 #[grV x vp va vb] w fun e w' => e = .returned (.tuple #[layNo, .int .i64 1]) ∧ Below w.heap.size w w' := by
  have HMY := Lib.hid (fun (W : World) (hW : Below w.heap.size w W) => may19_any x _ _ _ W (h.below hW) hs)
  obtain ⟨ap, ac, rfl⟩ := h.arrays.form
  obtain ⟨bp, bc, rfl⟩ := h.blocks.form
  obtain ⟨pp, pc, rfl⟩ := h.params.form
  rw [hff] at HMY
  unfold layNo
  unfold grV at HMY ⊢
  clear h hs hff
  go_enter Tryd.func23, Tryd.ntmps23
  have HX0 := Lib.hid (fun (W : World) (hW : Below (w.heap.size + 2) ((w.alloc (.cells #[.slice pp x.params.length pc, .int .i64 x.temps, .slice ap x.arrays.length ac, .slice bp x.blocks.length bc] 26)).alloc (.cells #[.int .i64 0, .slice none 0 0, .int .i64 0, .int .i64 0, .int .i64 0] 51)) W) => lay_boxes w _ _ _ _ W hW)
  go_wp2_with (first
    | (go_at_call 46
       refine (HMY.out _ (below2 w _ _)).mono ?_
       rintro e w5 ⟨rfl, hb5⟩
       have HB5 : Hid (Below (w.heap.size + 2) ((w.alloc (.cells #[.slice pp x.params.length pc, .int .i64 x.temps, .slice ap x.arrays.length ac, .slice bp x.blocks.length bc] 26)).alloc (.cells #[.int .i64 0, .slice none 0 0, .int .i64 0, .int .i64 0, .int .i64 0] 51)) w5) := Lib.hid (by simpa using hb5)
       obtain ⟨⟨y0, y1, y2, y3⟩, ⟨z0, z1, z2, z3, z4⟩, hzb, _⟩ := HX0.out w5 HB5.out
       have HZB := Lib.hid hzb
       have HBW : Hid (Below w.heap.size w w5) := Lib.hid (below_then (below2 w _ _) hb5)
       clear hb5 hzb)
    | fail)
  obtain ⟨hbk, _, _, hbb⟩ := five HZB.out (.int .i64 0) (.slice none 0 0) (.int .i64 0) (.int .i64 0) (.int .i64 0)
  have hbw := hbb _ _ HBW.out (show w.heap.size ≤ w.heap.size + 1 by omega)
  unfold set5 at hbk hbw
  generalize (((((w5.setCell ⟨w.heap.size + 1, 0, none⟩ (.int .i64 0)).setCell ⟨w.heap.size + 1, 1, none⟩ (.slice none 0 0)).setCell ⟨w.heap.size + 1, 2, none⟩ (.int .i64 0)).setCell ⟨w.heap.size + 1, 3, none⟩ (.int .i64 0)).setCell ⟨w.heap.size + 1, 4, none⟩ (.int .i64 0)) = W9 at hbk hbw ⊢
  obtain ⟨u0, _⟩ := cell_of_block hbk (k := 0) rfl
  obtain ⟨u1, _⟩ := cell_of_block hbk (k := 1) rfl
  obtain ⟨u2, _⟩ := cell_of_block hbk (k := 2) rfl
  obtain ⟨u3, _⟩ := cell_of_block hbk (k := 3) rfl
  obtain ⟨u4, _⟩ := cell_of_block hbk (k := 4) rfl
  refine bodyPost_ret (v := .tuple #[.agg #[.int .i64 0, .slice none 0 0, .int .i64 0, .int .i64 0, .int .i64 0], .int .i64 1]) ?_ rfl ⟨rfl, hbw⟩
  simp [results, Tryd.results23, go_sem, u0, u1, u2, u3, u4]
end Go.Proofs.YtcijaaiopfbffaaDoor.Live
