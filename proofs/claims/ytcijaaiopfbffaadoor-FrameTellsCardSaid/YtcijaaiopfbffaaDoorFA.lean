/- Frames, plainly; wordsOf, arraysFit, keep. No condition but sizes. -/
import Derived.Test.YtcijaaiopfbffaaDoorVN
import Derived.Test.YtcijaaiopfbffaaDoorShelfb
namespace Go.Proofs.YtcijaaiopfbffaaDoor.Live
open Go.RowKit Go.Proofs.YtcijaaiopfbffaaDoor.Graph Go.Shelf

def arrOk (a : PArr) : Bool := decide (1 ≤ a.kind) && decide (a.kind ≤ 3) && (!(a.kind == 2) || (decide (1 ≤ a.n) && decide (a.n ≤ 1000)))
def localOf (a : PArr) : Int := if a.kind = 2 then a.n else 0
def handOf (a : PArr) : Int := if a.kind = 2 then 0 else if a.kind = 3 then 2 else 0
def localW (l : List PArr) : Int := l.foldl (fun s a => s + localOf a) 0
def handW (l : List PArr) : Int := l.foldl (fun s a => s + handOf a) 0
def arrsFit (l : List PArr) : Bool := decide (l.length ≤ 500) && l.all arrOk && decide (localW l ≤ 1000) && decide (handW l ≤ 16)
theorem local_take {l : List PArr} {k : Nat} {a : PArr} (h : l[k]? = some a) : localW (l.take (k + 1)) = localW (l.take k) + localOf a := by
  unfold localW
  rw [List.take_add_one, h, List.foldl_append]; rfl
theorem hand_take {l : List PArr} {k : Nat} {a : PArr} (h : l[k]? = some a) : handW (l.take (k + 1)) = handW (l.take k) + handOf a := by
  unfold handW
  rw [List.take_add_one, h, List.foldl_append]; rfl
theorem arr_bounds {a : PArr} (h : arrOk a = true) : 0 ≤ localOf a ∧ localOf a ≤ 1000 ∧ 0 ≤ handOf a ∧ handOf a ≤ 2 := by
  unfold arrOk at h
  simp only [Bool.and_eq_true, Bool.or_eq_true, Bool.not_eq_true', decide_eq_true_eq, beq_eq_false_iff_ne, ne_eq] at h
  unfold localOf handOf
  (repeat' split) <;> omega
theorem words_bounds {l : List PArr} (h : l.all arrOk = true) : ∀ k, k ≤ l.length → 0 ≤ localW (l.take k) ∧ localW (l.take k) ≤ 1000 * k ∧ 0 ≤ handW (l.take k) ∧ handW (l.take k) ≤ 2 * k
  | 0, _ => by simp [localW, handW]
  | k + 1, hk => by
    have ih := words_bounds h k (by omega)
    have hx : l[k]? = some l[k] := List.getElem?_eq_getElem (by omega)
    have hb := arr_bounds (List.all_eq_true.1 h _ (List.getElem_mem (by omega)) : arrOk l[k] = true)
    rw [local_take hx, hand_take hx]
    omega
/-- The cells of an array. -/
theorem arrs_cell {w : World} {v : Value} {l : List PArr} (h : ArrsR w v l) {k : Nat} {x : PArr} (hk : l[k]? = some x) : ∃ g o c, v = .slice (some ⟨g, o, none⟩) l.length c ∧ w.cell? ⟨g, o + k * 2, none⟩ = some (.int .i64 x.kind) ∧ w.cell? ⟨g, o + k * 2 + 1, none⟩ = some (.int .i64 x.n) ∧ g < w.heap.size ∧ l.length ≤ c ∧ c ≤ 9223372036854775807 := by
  have hlt := (List.getElem?_eq_some_iff.1 hk).1
  obtain ⟨g, o, c, hv, hcap, hgl, hP⟩ := SlR.form2 h (by omega)
  obtain ⟨h1, h2⟩ := hP k hlt x hk
  exact ⟨g, o, c, hv, h1, h2, hgl, hcap.1, hcap.2⟩
/-- In the middle of wordsOf: its result's block, its own, and how far it is. -/
structure Wd (w : World) (L H : Int) (W : World) : Prop where
  below : Below w.heap.size w W
  size : w.heap.size + 2 ≤ W.heap.size
  res : W.heap[w.heap.size]? = some (.cells #[.int .i64 0, .int .i64 0] 88 (0, 0))
  own : W.heap[w.heap.size + 1]? = some (.cells #[.int .i64 L, .int .i64 H] 88 (0, 0))
theorem Wd.grow {w W W' : World} {L H : Int} (h : Wd w L H W) (hb : Below W.heap.size W W') : Wd w L H W' :=
  ⟨below_then h.below hb, Nat.le_trans h.size hb.size, (hb.block _ (by have := h.size; omega)).trans h.res, (hb.block _ (by have := h.size; omega)).trans h.own⟩
theorem Wd.setL {w W : World} {L H : Int} (h : Wd w L H W) (L' : Int) : Wd w L' H (W.setCell ⟨w.heap.size + 1, 0, none⟩ (.int .i64 L')) :=
  ⟨below_set h.below (by omega), by rw [World.size_setCell]; exact h.size, (heap_setCell_other W ⟨w.heap.size + 1, 0, none⟩ _ _ (by show w.heap.size ≠ w.heap.size + 1; omega)).trans h.res, heap_setCell_same W _ 0 _ _ _ h.own⟩
theorem Wd.setH {w W : World} {L H : Int} (h : Wd w L H W) (H' : Int) : Wd w L H' (W.setCell ⟨w.heap.size + 1, 1, none⟩ (.int .i64 H')) :=
  ⟨below_set h.below (by omega), by rw [World.size_setCell]; exact h.size, (heap_setCell_other W ⟨w.heap.size + 1, 1, none⟩ _ _ (by show w.heap.size ≠ w.heap.size + 1; omega)).trans h.res, heap_setCell_same W _ 1 _ _ _ h.own⟩
theorem new_arr {w : World} (k n : Int) : (w.alloc (.cells #[.int .i64 k, .int .i64 n] 59)).heap[w.heap.size]? = some (.cells #[.int .i64 k, .int .i64 n] 59 (0, 0)) := heap_new w _
set_option maxHeartbeats 8000000 in
set_option maxRecDepth 100000 in
theorem wordsOf_any (l : List PArr) (v : Value) (w : World) (h : ArrsR w v l) (hok : l.all arrOk = true) (hl : l.length ≤ 500) :
    Calls Tryd.prog 44 #[v] w (Is (.agg #[.int .i64 (localW l), .int .i64 (handW l)]) w) := by
  obtain ⟨p, c, rfl⟩ := h.form
  have HL := Lib.hid h
  have HOK := Lib.hid hok
  obtain ⟨n, hn⟩ : ∃ n, n = l.length := ⟨_, rfl⟩
  have HN := Lib.hid hn
  rw [← hn] at hl ⊢
  have nl : (n : Int) ≤ 500 := by omega
  clear h hn hok
  go_enter Tryd.func44, Tryd.ntmps44
  have HW1 : Hid (Wd w 0 0 ((w.alloc (.cells #[.int .i64 0, .int .i64 0] 88)).alloc (.cells #[.int .i64 0, .int .i64 0] 88))) := Lib.hid (by
    refine ⟨below2 w _ _, by simp, ?_, new_at w _ _⟩
    rw [Below.heap_alloc _ _ _ (by simp)]; exact heap_new w _)
  go_wp2
  generalize ((w.alloc (.cells #[.int .i64 0, .int .i64 0] 88)).alloc (.cells #[.int .i64 0, .int .i64 0] 88)) = w1 at HW1 ⊢
  go_loopw [8] (fun i wr => ∃ k : Nat, k ≤ n ∧ i = .int .i64 k ∧ Hid (Wd w (localW (l.take k)) (handW (l.take k)) wr)) (fun i _ => n - (intOf i).toNat)
  case atStart => exact ⟨0, Nat.zero_le _, rfl, HW1⟩
  case round =>
    obtain ⟨k, hk, rfl, HW⟩ := hrel
    by_cases hkn : k < n
    · obtain ⟨a, ha⟩ : ∃ a, l[k]? = some a := ⟨_, List.getElem?_eq_getElem (by have := HN.out; omega)⟩
      obtain ⟨g, o, c', hv, hc0, hc1, hg, hc2, hc3⟩ := arrs_cell (HL.out.below HW.out.below) ha
      rw [← HN.out] at hv hc2
      injection hv with e1 _ e3
      subst e1 e3
      have ki : (k : Int) < n := by omega
      have k0 : (0 : Int) ≤ k := by omega
      have k2 : (n : Int) ≤ c := by omega
      have k3 : (c : Int) ≤ 9223372036854775807 := by omega
      have hb := words_bounds HOK.out k (by have := HN.out; omega)
      have hak := List.all_eq_true.1 HOK.out a (List.mem_of_getElem? ha)
      have hab := arr_bounds hak
      have HLT := Lib.hid (local_take ha)
      have HHT := Lib.hid (hand_take ha)
      generalize localW (l.take k) = L at *
      generalize handW (l.take k) = H at *
      obtain ⟨b1, b2, b3, b4⟩ := hb
      have b5 : L ≤ 500000 := by omega
      have b6 : H ≤ 1000 := by omega
      have HW2 : Hid (Wd w L H (wr.alloc (.cells #[.int .i64 a.kind, .int .i64 a.n] 59))) := Lib.hid (HW.out.grow (Graph.below_alloc wr _))
      have HNA := Lib.hid (new_arr (w := wr) a.kind a.n)
      have hsz : (wr.alloc (.cells #[.int .i64 a.kind, .int .i64 a.n] 59)).heap.size = wr.heap.size + 1 := by simp
      have hne : w.heap.size + 1 ≠ wr.heap.size := by have := HW.out.size; omega
      clear ha hc2 hc3 b2 b4
      go_upto_region 5 with (fail)
      obtain ⟨W2, hW2⟩ : ∃ W2, W2 = wr.alloc (.cells #[.int .i64 a.kind, .int .i64 a.n] 59) := ⟨_, rfl⟩
      rw [← hW2] at HW2 HNA ⊢
      clear hW2 hsz hc0 hc1
      obtain ⟨d0, _⟩ := cell_of_block HNA.out (k := 0) rfl
      obtain ⟨d1, _⟩ := cell_of_block HNA.out (k := 1) rfl
      obtain ⟨x0, f0⟩ := cell_of_block HW2.out.own (k := 0) rfl
      obtain ⟨x1, f1⟩ := cell_of_block HW2.out.own (k := 1) rfl
      by_cases h2 : a.kind = 2
      · have e2 : (a.kind == 2) = true := by simpa using h2
        have hlo : localOf a = a.n := by unfold localOf; rw [if_pos h2]
        have hho : handOf a = 0 := by unfold handOf; rw [if_pos h2]
        rw [hlo] at hab
        obtain ⟨a1, a2, _, _⟩ := hab
        have HE : Hid (localW (l.take (k + 1)) = L + a.n ∧ handW (l.take (k + 1)) = H) := Lib.hid ⟨by rw [HLT.out, hlo], by rw [HHT.out, hho]; omega⟩
        have HWN := Lib.hid (HW2.out.setL (L + a.n))
        clear hak hlo hho h2 HW2 HNA
        go_wp2
        exact ⟨⟨k + 1, by omega, by go_num, Lib.hid (by rw [HE.out.1, HE.out.2]; exact HWN.out)⟩, by simp [intOf]; omega⟩
      · have e2 : (a.kind == 2) = false := by simpa using h2
        have hlo : localOf a = 0 := by unfold localOf; rw [if_neg h2]
        by_cases h3 : a.kind = 3
        · have e3 : (a.kind == 3) = true := by simpa using h3
          have hho : handOf a = 2 := by unfold handOf; rw [if_neg h2, if_pos h3]
          have HE : Hid (localW (l.take (k + 1)) = L ∧ handW (l.take (k + 1)) = H + 2) := Lib.hid ⟨by rw [HLT.out, hlo]; omega, by rw [HHT.out, hho]⟩
          have HWN := Lib.hid (HW2.out.setH (H + 2))
          clear hak hab hlo hho h2 h3 HW2 HNA
          go_wp2
          exact ⟨⟨k + 1, by omega, by go_num, Lib.hid (by rw [HE.out.1, HE.out.2]; exact HWN.out)⟩, by simp [intOf]; omega⟩
        · have e3 : (a.kind == 3) = false := by simpa using h3
          have hho : handOf a = 0 := by unfold handOf; rw [if_neg h2, if_neg h3]
          have HE : Hid (localW (l.take (k + 1)) = L ∧ handW (l.take (k + 1)) = H) := Lib.hid ⟨by rw [HLT.out, hlo]; omega, by rw [HHT.out, hho]; omega⟩
          clear hak hab hlo hho h2 h3 HNA
          go_wp2
          exact ⟨⟨k + 1, by omega, by go_num, Lib.hid (by rw [HE.out.1, HE.out.2]; exact HW2.out)⟩, by simp [intOf]; omega⟩
    · have hkn2 : k = n := by omega
      have hki : ¬ ((k : Int) < n) := by omega
      have HE : Hid (l.take k = l) := Lib.hid (by rw [hkn2, HN.out, List.take_length])
      rw [HE.out] at HW
      obtain ⟨x0, _⟩ := cell_of_block HW.out.own (k := 0) rfl
      obtain ⟨x1, _⟩ := cell_of_block HW.out.own (k := 1) rfl
      obtain ⟨y0, z0⟩ := cell_of_block HW.out.res (k := 0) rfl
      obtain ⟨y1, z1⟩ := cell_of_block HW.out.res (k := 1) rfl
      have HB := Lib.hid HW.out.below
      generalize localW l = L at *
      generalize handW l = H at *
      go_wp2
      have hbk := heap_setCell_same (wr.setCell ⟨w.heap.size, 0, none⟩ (.int .i64 L)) w.heap.size 1 _ _ (.int .i64 H) (heap_setCell_same wr w.heap.size 0 _ _ (.int .i64 L) HW.out.res)
      have hbw : Below w.heap.size w ((wr.setCell ⟨w.heap.size, 0, none⟩ (.int .i64 L)).setCell ⟨w.heap.size, 1, none⟩ (.int .i64 H)) := below_set (below_set HB.out (Nat.le_refl _)) (Nat.le_refl _)
      generalize ((wr.setCell ⟨w.heap.size, 0, none⟩ (.int .i64 L)).setCell ⟨w.heap.size, 1, none⟩ (.int .i64 H)) = W9 at hbk hbw ⊢
      obtain ⟨u0, _⟩ := cell_of_block hbk (k := 0) rfl
      obtain ⟨u1, _⟩ := cell_of_block hbk (k := 1) rfl
      refine bodyPost_ret (v := .agg #[.int .i64 L, .int .i64 H]) ?_ rfl ⟨rfl, hbw⟩
      simp [results, Tryd.results44, go_sem, u0, u1]
/-- What arraysFit asks of an array's kind and number, case by case. -/
theorem arr_cases (a : PArr) : (arrOk a = false ∧ (a.kind < 1 ∨ (1 ≤ a.kind ∧ 3 < a.kind) ∨ (a.kind = 2 ∧ a.n < 1) ∨ (a.kind = 2 ∧ 1 ≤ a.n ∧ 1000 < a.n))) ∨ (arrOk a = true ∧ 1 ≤ a.kind ∧ a.kind ≤ 3 ∧ ((a.kind = 2 ∧ 1 ≤ a.n ∧ a.n ≤ 1000) ∨ a.kind ≠ 2)) := by
  unfold arrOk
  by_cases h1 : a.kind < 1
  · exact .inl ⟨by simp; omega, .inl h1⟩
  · by_cases h3 : 3 < a.kind
    · exact .inl ⟨by simp; omega, .inr (.inl ⟨by omega, h3⟩)⟩
    · by_cases h2 : a.kind = 2
      · by_cases hn : a.n < 1
        · exact .inl ⟨by simp [h2]; omega, .inr (.inr (.inl ⟨h2, hn⟩))⟩
        · by_cases hm : 1000 < a.n
          · exact .inl ⟨by simp [h2]; omega, .inr (.inr (.inr ⟨h2, by omega, hm⟩))⟩
          · exact .inr ⟨by simp [h2]; omega, by omega, by omega, .inl ⟨h2, by omega, by omega⟩⟩
      · exact .inr ⟨by simp [h2]; omega, by omega, by omega, .inr h2⟩
theorem arrs_not {l : List PArr} {k : Nat} {a : PArr} (ha : l[k]? = some a) (h : arrOk a = false) : arrsFit l = false := by
  unfold arrsFit
  have : l.all arrOk = false := by
    cases hq : l.all arrOk
    · rfl
    · have := List.all_eq_true.1 hq a (List.mem_of_getElem? ha)
      rw [h] at this; cases this
  rw [this, Bool.and_false, Bool.false_and, Bool.false_and]
set_option maxHeartbeats 8000000 in
set_option maxRecDepth 100000 in
theorem arraysFit_any (l : List PArr) (v : Value) (w : World) (h : ArrsR w v l) :
    Calls Tryd.prog 43 #[v] w (Is (.bool (arrsFit l)) w) := by
  obtain ⟨p, c, rfl⟩ := h.form
  have HL := Lib.hid h
  obtain ⟨n, hn⟩ : ∃ n, n = l.length := ⟨_, rfl⟩
  have HN := Lib.hid hn
  by_cases hl : l.length ≤ 500
  case neg =>
    have hr : Hid (arrsFit l = false) := Lib.hid (by unfold arrsFit; rw [decide_eq_false hl, Bool.false_and, Bool.false_and, Bool.false_and])
    rw [← hn] at hl ⊢
    have nl : (500 : Int) < n := by omega
    clear h hn hl
    go_enter Tryd.func43, Tryd.ntmps43
    go_wp2
    go_ret
    exact ⟨by rw [hr.out]; rfl, Below.refl _ _⟩
  have HWO := Lib.hid (fun (W : World) (hW : Below w.heap.size w W) (hok : l.all arrOk = true) => wordsOf_any l _ W (HL.out.below hW) hok hl)
  rw [← hn] at hl HWO ⊢
  have nl : (n : Int) ≤ 500 := by omega
  clear h hn
  go_enter Tryd.func43, Tryd.ntmps43
  go_wp2
  go_loopw [11] (fun i wr => ∃ k : Nat, k ≤ n ∧ i = .int .i64 k ∧ Hid (Below w.heap.size w wr) ∧ Hid (∀ j a, j < k → l[j]? = some a → arrOk a = true)) (fun i _ => n - (intOf i).toNat)
  case atStart => exact ⟨0, Nat.zero_le _, rfl, Lib.hid (Below.refl _ _), Lib.hid (fun j a hj => absurd hj (Nat.not_lt_zero _))⟩
  case round =>
    obtain ⟨k, hk, rfl, HW, HA⟩ := hrel
    by_cases hkn : k < n
    · obtain ⟨a, ha⟩ : ∃ a, l[k]? = some a := ⟨_, List.getElem?_eq_getElem (by have := HN.out; omega)⟩
      obtain ⟨g, o, c', hv, hc0, hc1, hg, hc2, hc3⟩ := arrs_cell (HL.out.below HW.out) ha
      rw [← HN.out] at hv hc2
      injection hv with e1 _ e3
      subst e1 e3
      have ki : (k : Int) < n := by omega
      have k0 : (0 : Int) ≤ k := by omega
      have k2 : (n : Int) ≤ c := by omega
      have k3 : (c : Int) ≤ 9223372036854775807 := by omega
      have HNA := Lib.hid (new_arr (w := wr) a.kind a.n)
      have HBA : Hid (Below w.heap.size w (wr.alloc (.cells #[.int .i64 a.kind, .int .i64 a.n] 59))) := Lib.hid (below_then HW.out (Graph.below_alloc wr _))
      have HAK := Lib.hid ha
      clear ha hc2 hc3
      go_upto_region 6 with (fail)
      generalize wr.alloc (.cells #[.int .i64 a.kind, .int .i64 a.n] 59) = W2 at HNA HBA ⊢
      clear hc0 hc1
      obtain ⟨d0, _⟩ := cell_of_block HNA.out (k := 0) rfl
      obtain ⟨d1, _⟩ := cell_of_block HNA.out (k := 1) rfl
      rcases arr_cases a with ⟨hno, hh⟩ | ⟨hyes, h1, h3, hh⟩
      · have hr : Hid (arrsFit l = false) := Lib.hid (arrs_not HAK.out hno)
        clear hno HNA
        rcases hh with h1 | ⟨h1, h3⟩ | ⟨h2, h4⟩ | ⟨h2, h4, h5⟩
        · go_wp2
          go_ret
          exact ⟨by rw [hr.out]; rfl, HBA.out⟩
        · go_wp2
          go_ret
          exact ⟨by rw [hr.out]; rfl, HBA.out⟩
        · have h1 : 1 ≤ a.kind := by omega
          have h3 : a.kind ≤ 3 := by omega
          have e2 : (a.kind == 2) = true := by simpa using h2
          clear h2
          go_wp2
          go_ret
          exact ⟨by rw [hr.out]; rfl, HBA.out⟩
        · have h1 : 1 ≤ a.kind := by omega
          have h3 : a.kind ≤ 3 := by omega
          have e2 : (a.kind == 2) = true := by simpa using h2
          clear h2
          go_wp2
          go_ret
          exact ⟨by rw [hr.out]; rfl, HBA.out⟩
      · have HY : Hid (∀ j b, j < k + 1 → l[j]? = some b → arrOk b = true) := Lib.hid (fun j b hj hb => by
          by_cases e : j = k
          · subst e
            rw [HAK.out] at hb
            injection hb with hb
            rw [← hb]; exact hyes
          · exact HA.out j b (by omega) hb)
        clear hyes HNA
        rcases hh with ⟨h2, h4, h5⟩ | h2
        · have e2 : (a.kind == 2) = true := by simpa using h2
          clear h2
          go_wp2
          exact ⟨⟨k + 1, by omega, by go_num, HBA, HY⟩, by simp [intOf]; omega⟩
        · have e2 : (a.kind == 2) = false := by simpa using h2
          clear h2
          go_wp2
          exact ⟨⟨k + 1, by omega, by go_num, HBA, HY⟩, by simp [intOf]; omega⟩
    · have hkn2 : k = n := by omega
      have hki : ¬ ((k : Int) < n) := by omega
      have hall : l.all arrOk = true := List.all_eq_true.2 (fun a ha => by
        obtain ⟨j, hj, e⟩ := List.mem_iff_getElem.1 ha
        exact HA.out j a (by have := HN.out; omega) (by rw [List.getElem?_eq_getElem hj, e]))
      have HR : Hid (arrsFit l = (decide (localW l ≤ 1000) && decide (handW l ≤ 16))) := Lib.hid (by unfold arrsFit; rw [decide_eq_true (by have := HN.out; omega), hall]; simp)
      have HWC := Lib.hid (HWO.out wr HW.out hall)
      clear hall HWO
      generalize localW l = L at *
      generalize handW l = H at *
      by_cases hL : L ≤ 1000
      · have hr : Hid (arrsFit l = decide (H ≤ 16)) := Lib.hid (by rw [HR.out, decide_eq_true hL, Bool.true_and])
        go_wp2_with (
          go_at_call 44
          refine HWC.out.mono ?_
          rintro e w5 ⟨rfl, hb5⟩
          have HB5 := Lib.hid hb5
          clear hb5)
        go_ret
        exact ⟨by rw [hr.out]; rfl, below_then HW.out (below_then HB5.out (Graph.below_alloc w5 _))⟩
      · have hr : Hid (arrsFit l = false) := Lib.hid (by rw [HR.out, decide_eq_false hL, Bool.false_and])
        have hL2 : 1000 < L := by omega
        go_wp2_with (
          go_at_call 44
          refine HWC.out.mono ?_
          rintro e w5 ⟨rfl, hb5⟩
          have HB5 := Lib.hid hb5
          clear hb5)
        go_ret
        exact ⟨by rw [hr.out]; rfl, below_then HW.out (below_then HB5.out (Graph.below_alloc w5 _))⟩
end Go.Proofs.YtcijaaiopfbffaaDoor.Live
namespace Go.Proofs.YtcijaaiopfbffaaDoor.Live
open Go.RowKit Go.Proofs.YtcijaaiopfbffaaDoor.Graph Go.Shelf

def parOk (m : Int) (l : List Int) (i : Nat) : Bool := match l[i]? with | some p => belowB p m && !(l.take i).contains p | none => true
def parsFit (m : Int) (l : List Int) : Bool := decide (l.length ≤ 8) && (List.range l.length).all (parOk m l)
theorem pars_not {m : Int} {l : List Int} {k : Nat} (hk : k < l.length) (h : parOk m l k = false) : parsFit m l = false := by
  unfold parsFit
  have : (List.range l.length).all (parOk m l) = false := by
    cases hq : (List.range l.length).all (parOk m l)
    · rfl
    · have := List.all_eq_true.1 hq k (List.mem_range.2 hk)
      rw [h] at this; cases this
  rw [this, Bool.and_false]
theorem parOk_at {m : Int} {l : List Int} {k : Nat} {p : Int} (hp : l[k]? = some p) : parOk m l k = (belowB p m && !(l.take k).contains p) := by unfold parOk; rw [hp]
set_option maxHeartbeats 8000000 in
set_option maxRecDepth 100000 in
theorem paramsFit_any (x : PGr) (vp va vb : Value) (w : World) (h : GrL w vp va vb x) :
    Calls Tryd.prog 42 #[grV x vp va vb] w (Is (.bool (parsFit x.temps x.params)) w) := by
  obtain ⟨ap, ac, rfl⟩ := h.arrays.form
  obtain ⟨bp, bc, rfl⟩ := h.blocks.form
  have HP := Lib.hid h.params
  obtain ⟨p, c, rfl⟩ := h.params.form
  unfold grV
  obtain ⟨n, hn⟩ : ∃ n, n = x.params.length := ⟨_, rfl⟩
  have HN := Lib.hid hn
  by_cases hl : x.params.length ≤ 8
  case neg =>
    have hr : Hid (parsFit x.temps x.params = false) := Lib.hid (by unfold parsFit; rw [decide_eq_false hl, Bool.false_and])
    rw [← hn] at hl ⊢
    have nl : (8 : Int) < n := by omega
    clear h hn hl
    go_enter Tryd.func42, Tryd.ntmps42
    go_wp2
    go_ret
    exact ⟨by rw [hr.out]; rfl, Graph.below_alloc w _⟩
  rw [← hn] at hl ⊢
  have nl : (n : Int) ≤ 8 := by omega
  clear h hn
  go_enter Tryd.func42, Tryd.ntmps42
  have HX1 : Hid ((w.alloc (.cells #[.slice p n c, .int .i64 x.temps, .slice ap x.arrays.length ac, .slice bp x.blocks.length bc] 26)).heap[w.heap.size]? = some (.cells #[.slice p n c, .int .i64 x.temps, .slice ap x.arrays.length ac, .slice bp x.blocks.length bc] 26 (0, 0))) := Lib.hid (heap_new w _)
  have HB1 := Lib.hid (Graph.below_alloc w (.cells #[.slice p n c, .int .i64 x.temps, .slice ap x.arrays.length ac, .slice bp x.blocks.length bc] 26))
  go_wp2
  generalize w.alloc (.cells #[.slice p n c, .int .i64 x.temps, .slice ap x.arrays.length ac, .slice bp x.blocks.length bc] 26) = w1 at HX1 HB1 ⊢
  obtain ⟨y0, _⟩ := cell_of_block HX1.out (k := 0) rfl
  obtain ⟨y1, _⟩ := cell_of_block HX1.out (k := 1) rfl
  clear HX1
  go_loopw [12] (fun i wr => ∃ k : Nat, k ≤ n ∧ i = .int .i64 k ∧ wr = w1 ∧ Hid (∀ j, j < k → parOk x.temps x.params j = true)) (fun i _ => n - (intOf i).toNat)
  case atStart => exact ⟨0, Nat.zero_le _, rfl, rfl, Lib.hid (fun j hj => absurd hj (Nat.not_lt_zero _))⟩
  case round =>
    obtain ⟨k, hk, rfl, rfl, HA⟩ := hrel
    by_cases hkn : k < n
    · obtain ⟨a, ha⟩ : ∃ a, x.params[k]? = some a := ⟨_, List.getElem?_eq_getElem (by have := HN.out; omega)⟩
      have HPW := Lib.hid (HP.out.below HB1.out)
      obtain ⟨g, o, c', hv, hc0, hg, hc2, hc3⟩ := ints_cell HPW.out ha
      rw [← HN.out] at hv hc2
      injection hv with e1 _ e3
      subst e1 e3
      have ki : (k : Int) < n := by omega
      have k0 : (0 : Int) ≤ k := by omega
      have k2 : (n : Int) ≤ c := by omega
      have k3 : (c : Int) ≤ 9223372036854775807 := by omega
      have k4 : (k : Int) ≤ c := by omega
      have HOK := Lib.hid (parOk_at (m := x.temps) ha)
      have HCO := Lib.hid (Tryd.slices_Contains_int g o k c x.params a wr (by have := HN.out; omega) (by omega) (fun j hj => by
        obtain ⟨g', o', c'', hv', hc', _⟩ := ints_cell HPW.out (List.getElem?_eq_getElem hj)
        injection hv' with e1 _ _
        injection e1 with e1
        injection e1 with e1 e2 _
        subst e1 e2
        rw [hc']
        simp [List.getD, hj]))
      have HLT : Hid (k < x.params.length) := Lib.hid (by have := HN.out; omega)
      clear ha hc2 hc3
      by_cases a0 : a < 0
      · have hr : Hid (parsFit x.temps x.params = false) := Lib.hid (pars_not HLT.out (by rw [HOK.out]; unfold belowB; rw [decide_eq_false (by omega)]; rfl))
        go_wp2
        go_ret
        exact ⟨by rw [hr.out]; rfl, HB1.out⟩
      by_cases a1 : x.temps ≤ a
      · have hr : Hid (parsFit x.temps x.params = false) := Lib.hid (pars_not HLT.out (by rw [HOK.out]; unfold belowB; rw [decide_eq_false (show ¬ a < x.temps by omega), Bool.and_false, Bool.false_and]))
        go_wp2
        go_ret
        exact ⟨by rw [hr.out]; rfl, HB1.out⟩
      have hbl : belowB a x.temps = true := by unfold belowB; simp; omega
      rw [hbl, Bool.true_and] at HOK
      clear hbl
      cases hct : (x.params.take k).contains a with
      | true =>
        have hr : Hid (parsFit x.temps x.params = false) := Lib.hid (pars_not HLT.out (by rw [HOK.out, hct]; rfl))
        have HCT := Lib.hid hct
        clear hct
        go_wp2_with (
          go_at_call 61
          refine HCO.out.mono ?_
          rintro e w5 ⟨rfl, h5⟩
          subst h5
          rw [HCT.out])
        go_ret
        exact ⟨by rw [hr.out]; rfl, HB1.out⟩
      | false =>
        have HY : Hid (∀ j, j < k + 1 → parOk x.temps x.params j = true) := Lib.hid (fun j hj => by
          by_cases e : j = k
          · subst e; rw [HOK.out, hct]; rfl
          · exact HA.out j (by omega))
        have HCT := Lib.hid hct
        clear hct
        go_wp2_with (
          go_at_call 61
          refine HCO.out.mono ?_
          rintro e w5 ⟨rfl, h5⟩
          subst h5
          rw [HCT.out])
        exact ⟨⟨k + 1, by omega, by go_num, (by first | trivial | rfl), HY⟩, by simp [intOf]; omega⟩
    · have hkn2 : k = n := by omega
      have hki : ¬ ((k : Int) < n) := by omega
      have hr : Hid (parsFit x.temps x.params = true) := Lib.hid (by
        unfold parsFit
        rw [decide_eq_true (by have := HN.out; omega), Bool.true_and, List.all_eq_true]
        exact fun j hj => HA.out j (by have := List.mem_range.1 hj; have := HN.out; omega))
      go_wp2
      go_ret
      exact ⟨by rw [hr.out]; rfl, HB1.out⟩
end Go.Proofs.YtcijaaiopfbffaaDoor.Live
namespace Go.Proofs.YtcijaaiopfbffaaDoor.Live
open Go.RowKit Go.Proofs.YtcijaaiopfbffaaDoor.Graph Go.Shelf

/-- What each register is kept for, as it lies. -/
def RegRow (w : World) (g : Nat) (K : Nat → Int) : Prop :=
  ∃ cs, w.heap[g]? = some (.cells cs 112 (0, 0)) ∧ cs.size = 9 ∧ ∀ i, i < 9 → cs[i]? = some (.int .i64 (K i))
/-- One more reason. -/
def kp (K : Nat → Int) (t r : Int) : Nat → Int := fun i => if (i : Int) = t then r else K i
section
variable {w w' : World} {g : Nat} {K : Nat → Int}
theorem RegRow.lt (h : RegRow w g K) : g < w.heap.size := by
  obtain ⟨cs, h1, _⟩ := h
  exact (Array.getElem?_eq_some_iff.1 h1).1
theorem RegRow.cell (h : RegRow w g K) {b : Nat} (hb : b < 9) : w.cell? ⟨g, b, none⟩ = some (.int .i64 (K b)) ∧ w.frozen? ⟨g, b, none⟩ = false := by
  obtain ⟨cs, h1, _, h3⟩ := h
  exact ⟨by simp [World.cell?, h1, h3 b hb], by simp [World.frozen?, h1]⟩
theorem RegRow.keep (h : RegRow w g K) (he : w'.heap[g]? = w.heap[g]?) : RegRow w' g K := by
  obtain ⟨cs, h1, h2⟩ := h
  exact ⟨cs, he.trans h1, h2⟩
theorem RegRow.set (h : RegRow w g K) {t : Nat} (_ht : t < 9) (r : Int) : RegRow (w.setCell ⟨g, t, none⟩ (.int .i64 r)) g (kp K (t : Int) r) := by
  obtain ⟨cs, h1, h2, h3⟩ := h
  refine ⟨_, heap_setCell_same w g _ _ _ _ h1, by simpa using h2, fun c hc => ?_⟩
  have h4 := h3 c hc
  unfold kp
  by_cases e : c = t
  · subst e
    rw [Array.getElem?_setIfInBounds_self_of_lt (Array.getElem?_eq_some_iff.1 h4).1]; simp
  · have e2 : ¬ ((c : Int) = (t : Int)) := by omega
    rw [Array.getElem?_setIfInBounds_ne (Ne.symm e), if_neg e2]; exact h4
theorem RegRow.congr {K' : Nat → Int} (h : RegRow w g K) (he : ∀ i, i < 9 → K i = K' i) : RegRow w g K' := by
  obtain ⟨cs, h1, h2, h3⟩ := h
  exact ⟨cs, h1, h2, fun i hi => by rw [h3 i hi, he i hi]⟩
end
theorem keep_any {w : World} {rb : Nat} {K : Nat → Int} (h : RegRow w rb K) (t r : Int) (ht : 0 ≤ t) :
    Calls Tryd.prog 63 #[.pointer (some ⟨rb, 0, none⟩), .int .i64 t, .int .i64 r] w fun e w' => e = .returned (.tuple #[]) ∧ RegRow w' rb (kp K t r) ∧ Turn rb rb w w' := by
  obtain ⟨k, rfl⟩ := Int.eq_ofNat_of_zero_le ht
  by_cases hk : k < 9
  · obtain ⟨c0, f0⟩ := h.cell hk
    have HS := Lib.hid (h.set hk r)
    have HT := Lib.hid (Turn.setL rb rb k w (.int .i64 r))
    have k1 : (k : Int) < 9 := by omega
    have k2 : (0 : Int) ≤ k := by omega
    clear h ht
    go_enter Tryd.func63, Tryd.ntmps63
    go_wp2
    go_end0
    exact ⟨rfl, HS.out, HT.out⟩
  · have HS := Lib.hid (h.congr (K' := kp K (k : Int) r) fun i hi => by unfold kp; rw [if_neg (by omega)])
    have k1 : ¬ ((k : Int) < 9) := by omega
    clear h ht
    go_enter Tryd.func63, Tryd.ntmps63
    go_wp2
    go_end0
    exact ⟨rfl, HS.out, Turn.refl _ _ _⟩
def kIns (K : Nat → Int) (x : PIns) : Nat → Int := if setsT x then kp K x.d 1 else K
def kBlk (K : Nat → Int) (b : PBlk) : Nat → Int := b.code.foldl kIns K
def kArr (K : Nat → Int) (a : PArr) : Nat → Int := if a.kind = 2 then kp K 0 4 else K
def kPar (K : Nat → Int) (p : Int) : Nat → Int := kp K p 2
def kNeed (K : Nat → Int) (p : Int) : Nat → Int := kp K p 3
def kAll (g : PGr) (nl : List Int) : Nat → Int := g.arrays.foldl kArr (nl.foldl kNeed (g.params.foldl kPar (g.blocks.foldl kBlk fun _ => 0)))
def regQ (K : Nat → Int) (k : Nat) : List Nat := (List.range k).filter fun b => K b != 0
theorem regQ_len (K : Nat → Int) (k : Nat) : (regQ K k).length ≤ k := by
  have := List.length_filter_le (fun b => K b != 0) (List.range k)
  rwa [List.length_range] at this
theorem regQ_succ (K : Nat → Int) (k : Nat) : regQ K (k + 1) = if K k = 0 then regQ K k else regQ K k ++ [k] := by
  unfold regQ
  rw [List.range_succ, List.filter_append]
  by_cases h : K k = 0
  · rw [if_pos h]; simp [h]
  · rw [if_neg h]; simp [h]
theorem fold_at {α β : Type} {f : β → α → β} {l : List α} {k : Nat} {x : α} {b : β} (h : l[k]? = some x) : (l.take (k + 1)).foldl f b = f ((l.take k).foldl f b) x := by
  rw [List.take_add_one, h, List.foldl_append]; rfl
/-- In the middle of saved. -/
structure Sv (w : World) (bx : Obj) (K : Nat → Int) (W : World) : Prop where
  below : Below w.heap.size w W
  size : w.heap.size + 2 ≤ W.heap.size
  box : W.heap[w.heap.size]? = some bx
  reg : RegRow W (w.heap.size + 1) K
theorem Sv.grow {w W W' : World} {bx : Obj} {K : Nat → Int} (h : Sv w bx K W) (hb : Below W.heap.size W W') : Sv w bx K W' :=
  ⟨below_then h.below hb, Nat.le_trans h.size hb.size, (hb.block _ (by have := h.size; omega)).trans h.box, h.reg.keep (hb.block _ (by have := h.size; omega))⟩
theorem Sv.turn {w W W' : World} {bx : Obj} {K K' : Nat → Int} (h : Sv w bx K W) (ht : Turn (w.heap.size + 1) (w.heap.size + 1) W W') (hr : RegRow W' (w.heap.size + 1) K') : Sv w bx K' W' :=
  ⟨ht.below h.below (by omega) (by omega) (by have := h.size; omega), Nat.le_trans h.size ht.size, (ht.block _ (by have := h.size; omega) (by omega) (by omega)).trans h.box, hr⟩
/-- The row as it is read whole. -/
theorem RegRow.lit {w : World} {g : Nat} {K : Nat → Int} (h : RegRow w g K) : w.heap[g]? = some (.cells #[.int .i64 (K 0), .int .i64 (K 1), .int .i64 (K 2), .int .i64 (K 3), .int .i64 (K 4), .int .i64 (K 5), .int .i64 (K 6), .int .i64 (K 7), .int .i64 (K 8)] 112 (0, 0)) := by
  obtain ⟨cs, h1, h2, h3⟩ := h
  rw [h1]
  congr 2
  refine Array.ext (by rw [h2]; rfl) fun i hi hj => ?_
  have hi9 : i < 9 := by rw [← h2]; exact hi
  have h4 := h3 i hi9
  rw [Array.getElem?_eq_getElem hi] at h4
  injection h4 with h4
  rw [h4]
  obtain rfl | rfl | rfl | rfl | rfl | rfl | rfl | rfl | rfl : i = 0 ∨ i = 1 ∨ i = 2 ∨ i = 3 ∨ i = 4 ∨ i = 5 ∨ i = 6 ∨ i = 7 ∨ i = 8 := by omega
  all_goals rfl
end Go.Proofs.YtcijaaiopfbffaaDoor.Live
namespace Go.Proofs.YtcijaaiopfbffaaDoor.Live
open Go.RowKit Go.Proofs.YtcijaaiopfbffaaDoor.Graph Go.Shelf

theorem arrs_box {w : World} (a : PArr) : (w.alloc (.cells #[.int .i64 a.kind, .int .i64 a.n] 59)).heap[w.heap.size]? = some (.cells #[.int .i64 a.kind, .int .i64 a.n] 59 (0, 0)) := heap_new w _
theorem index_at (K : Nat → Int) (w : World) (k : Nat) (hk : k < 9) : (Instr.index 112 (.agg #[.int .i64 (K 0), .int .i64 (K 1), .int .i64 (K 2), .int .i64 (K 3), .int .i64 (K 4), .int .i64 (K 5), .int .i64 (K 6), .int .i64 (K 7), .int .i64 (K 8)]) (.int .i64 (k : Nat))).run Tryd.prog w = .ok (.int .i64 (K k)) w := by
  obtain rfl | rfl | rfl | rfl | rfl | rfl | rfl | rfl | rfl : k = 0 ∨ k = 1 ∨ k = 2 ∨ k = 3 ∨ k = 4 ∨ k = 5 ∨ k = 6 ∨ k = 7 ∨ k = 8 := by omega
  all_goals kernel_rfl
def SavedPost (K : Nat → Int) (w : World) (e : Ending) (w' : World) : Prop := ∃ v, e = .returned v ∧ w'.ownsRow w.heap.size 3 1 v (regQ K 9).length ((regQ K 9).map iN) ∧ Below w.heap.size w w'
set_option maxHeartbeats 16000000 in
set_option maxRecDepth 100000 in
theorem saved_any (x : PGr) (vp va vb vn : Value) (nl : List Int) (w : World) (h : GrL w vp va vb x) (hf : fitsB x = true) (hp : ∀ p ∈ x.params, 0 ≤ p) (hn : IntsR w vn nl) (hnl : ∀ t ∈ nl, 0 ≤ t) :
    Calls Tryd.prog 45 #[grV x vp va vb, vn] w (SavedPost (kAll x nl) w) := by
  have HPA := Lib.hid h.params
  have HAR := Lib.hid h.arrays
  have HBK := Lib.hid h.blocks
  obtain ⟨ap, ac, rfl⟩ := h.arrays.form
  obtain ⟨bp, bc, rfl⟩ := h.blocks.form
  obtain ⟨pp, pc, rfl⟩ := h.params.form
  obtain ⟨np, nc, rfl⟩ := hn.form
  have HNL := Lib.hid hn
  have HF := Lib.hid hf
  have HP := Lib.hid hp
  have HNP := Lib.hid hnl
  unfold grV
  obtain ⟨n, hbn⟩ : ∃ n, n = x.blocks.length := ⟨_, rfl⟩
  obtain ⟨m, hm⟩ : ∃ m, m = x.params.length := ⟨_, rfl⟩
  obtain ⟨q, hq⟩ : ∃ q, q = x.arrays.length := ⟨_, rfl⟩
  obtain ⟨r, hr⟩ : ∃ r, r = nl.length := ⟨_, rfl⟩
  have HN := Lib.hid hbn
  have HM := Lib.hid hm
  have HQ := Lib.hid hq
  have HR := Lib.hid hr
  rw [← hbn, ← hm, ← hq, ← hr]
  have HT8 : Hid (x.temps ≤ 8000) := Lib.hid (by
    unfold fitsB at hf
    rw [Bool.and_eq_true] at hf
    have := of_decide_eq_true hf.1
    omega)
  clear h hf hp hn hnl hbn hm hq hr
  go_enter Tryd.func45, Tryd.ntmps45
  obtain ⟨bx, hbx⟩ : ∃ bx, bx = Obj.cells #[.slice pp m pc, .int .i64 x.temps, .slice ap q ac, .slice bp n bc] 26 := ⟨_, rfl⟩
  have HBX : Hid (∀ (K : Nat → Int) (W : World), Sv w bx K W → W.cell? ⟨w.heap.size, 0, none⟩ = some (.slice pp m pc) ∧ W.cell? ⟨w.heap.size, 1, none⟩ = some (.int .i64 x.temps) ∧ W.cell? ⟨w.heap.size, 2, none⟩ = some (.slice ap q ac) ∧ W.cell? ⟨w.heap.size, 3, none⟩ = some (.slice bp n bc)) := Lib.hid (fun K W hW => by
    have hb := hW.box
    rw [hbx] at hb
    exact ⟨(cell_of_block hb (k := 0) rfl).1, (cell_of_block hb (k := 1) rfl).1, (cell_of_block hb (k := 2) rfl).1, (cell_of_block hb (k := 3) rfl).1⟩)
  have HS0 : Hid (Sv w bx (fun _ => 0) ((w.alloc (.cells #[.slice pp m pc, .int .i64 x.temps, .slice ap q ac, .slice bp n bc] 26)).alloc (.cells #[.int .i64 0, .int .i64 0, .int .i64 0, .int .i64 0, .int .i64 0, .int .i64 0, .int .i64 0, .int .i64 0, .int .i64 0] 112))) := Lib.hid (by
    refine ⟨below2 w _ _, by simp, ?_, ⟨_, new_at w _ _, rfl, fun i hi => ?_⟩⟩
    · rw [hbx, Below.heap_alloc _ _ _ (by simp)]; exact heap_new w _
    · obtain rfl | rfl | rfl | rfl | rfl | rfl | rfl | rfl | rfl : i = 0 ∨ i = 1 ∨ i = 2 ∨ i = 3 ∨ i = 4 ∨ i = 5 ∨ i = 6 ∨ i = 7 ∨ i = 8 := by omega
      all_goals rfl)
  clear hbx
  go_upto_region 2 with (fail)
  generalize ((w.alloc (.cells #[.slice pp m pc, .int .i64 x.temps, .slice ap q ac, .slice bp n bc] 26)).alloc (.cells #[.int .i64 0, .int .i64 0, .int .i64 0, .int .i64 0, .int .i64 0, .int .i64 0, .int .i64 0, .int .i64 0, .int .i64 0] 112)) = w1 at HS0 ⊢
  obtain ⟨y0, y1, y2, y3⟩ := HBX.out _ _ HS0.out
  go_wp2
  clear y0 y1 y2 y3
  go_loopw [21] (fun i wr => ∃ b : Nat, b ≤ n ∧ i = .int .i64 b ∧ Hid (Sv w bx ((x.blocks.take b).foldl kBlk fun _ => 0) wr)) (fun i _ => n - (intOf i).toNat)
  case atStart => exact ⟨0, Nat.zero_le _, rfl, HS0⟩
  case round =>
    obtain ⟨b, hb, rfl, HS⟩ := hrel
    obtain ⟨y0, y1, y2, y3⟩ := HBX.out _ _ HS.out
    by_cases hbn : b < n
    · have bi : (b : Int) < n := by omega
      have b0 : (0 : Int) ≤ b := by omega
      obtain ⟨blk, hblk⟩ : ∃ blk, x.blocks[b]? = some blk := ⟨_, List.getElem?_eq_getElem (by have := HN.out; omega)⟩
      obtain ⟨g, o, cap, hv, hcap, hgl, _⟩ := SlR.form2 HBK.out (by have := HN.out; omega)
      rw [← HN.out] at hv
      injection hv with e1 _ e3
      subst e1 e3
      have b2 : (n : Int) ≤ bc := by have := hcap.1; have := HN.out; omega
      have b3 : (bc : Int) ≤ 9223372036854775807 := by have := hcap.2; omega
      obtain ⟨pk, ck, pz, cc, pt, ct, ⟨c0w, _, _, _, _, _, _, _, _, _⟩, hck, _, hg9⟩ := blk_at HBK.out (Below.refl _ w) hblk
      have c0 := (cell_below HS.out.below hg9 _).trans c0w
      have HCK := Lib.hid hck
      have HBF := Lib.hid (fits_blk HF.out hblk).1
      have HFA := Lib.hid (fold_at (f := kBlk) (b := fun _ => 0) hblk)
      obtain ⟨c, hc⟩ : ∃ c, c = blk.code.length := ⟨_, rfl⟩
      have HC := Lib.hid hc
      rw [← hc] at c0
      clear hblk hgl hck hc c0w hg9
      go_wp2
      go_loopw [32] (fun i wq => ∃ k : Nat, k ≤ c ∧ i = .int .i64 k ∧ Hid (Sv w bx ((blk.code.take k).foldl kIns ((x.blocks.take b).foldl kBlk fun _ => 0)) wq) ∧ Hid (Turn (w.heap.size + 1) (w.heap.size + 1) wr wq)) (fun i _ => c - (intOf i).toNat)
      case atStart => exact ⟨0, Nat.zero_le _, rfl, HS, Lib.hid (Turn.refl _ _ _)⟩
      case round =>
        obtain ⟨k, hk, rfl, HSI, HTU⟩ := hrel
        by_cases hkc : k < c
        · have ki : (k : Int) < c := by omega
          have k0 : (0 : Int) ≤ k := by omega
          obtain ⟨y, hy⟩ : ∃ y, blk.code[k]? = some y := ⟨_, List.getElem?_eq_getElem (by have := HC.out; omega)⟩
          obtain ⟨gc, oc, cp, hv, hcap2, hgl, hP⟩ := SlR.form2 HCK.out (by have := HC.out; omega)
          rw [← HC.out] at hv
          injection hv with e1 _ e3
          subst e1 e3
          obtain ⟨va, vr, hR0⟩ := hP k (by have := HC.out; omega) y hy
          have hR : InsR wr gc (oc + k * 8) y va vr := hR0.below hgl HSI.out.below
          have k2 : (c : Int) ≤ ck := by have := hcap2.1; have := HC.out; omega
          have k3 : (ck : Int) ≤ 9223372036854775807 := by have := hcap2.2; omega
          have HSE := Lib.hid (sets_any y gc (oc + k * 8) va vr wr hR)
          have dd := hR.d
          have hd := (ins_temps (m := x.temps) HT8.out (blk_ins HBF.out hy)).2
          have HF2 := Lib.hid (fold_at (f := kIns) (b := (x.blocks.take b).foldl kBlk fun _ => 0) hy)
          clear hy hP hcap2 hR0 hR hgl
          cases hst : setsT y with
          | false =>
            have HE : Hid (Sv w bx ((blk.code.take (k + 1)).foldl kIns ((x.blocks.take b).foldl kBlk fun _ => 0)) wr) := Lib.hid (by
              rw [HF2.out]; unfold kIns; rw [hst]; exact HSI.out)
            rw [hst] at HSE
            clear hst hd
            go_wp2_with (
              go_at_call 62
              refine HSE.out.mono ?_
              rintro e w5 ⟨rfl, h5⟩
              subst h5)
            exact ⟨⟨k + 1, by omega, by go_num, HE, HTU⟩, by simp [intOf]; omega⟩
          | true =>
            have hd2 := (hd hst).1
            have HKE := Lib.hid (keep_any HSI.out.reg y.d 1 hd2)
            have HE : Hid (∀ W' : World, Turn (w.heap.size + 1) (w.heap.size + 1) wr W' → RegRow W' (w.heap.size + 1) (kp ((blk.code.take k).foldl kIns ((x.blocks.take b).foldl kBlk fun _ => 0)) y.d 1) → Sv w bx ((blk.code.take (k + 1)).foldl kIns ((x.blocks.take b).foldl kBlk fun _ => 0)) W') := Lib.hid (fun W' h1 h2 => by
              have h3 : (blk.code.take (k + 1)).foldl kIns ((x.blocks.take b).foldl kBlk fun _ => 0) = kp ((blk.code.take k).foldl kIns ((x.blocks.take b).foldl kBlk fun _ => 0)) y.d 1 := by
                rw [HF2.out]
                show kIns _ y = _
                unfold kIns; rw [hst]; rfl
              rw [h3]; exact HSI.out.turn h1 h2)
            rw [hst] at HSE
            clear hst hd
            go_wp2_with (first
              | (go_at_call 62
                 refine HSE.out.mono ?_
                 rintro e w5 ⟨rfl, h5⟩
                 subst h5)
              | (go_at_call 63
                 refine HKE.out.mono ?_
                 rintro e w6 ⟨rfl, h1, h2⟩
                 have H1 := Lib.hid h1
                 have H2 := Lib.hid h2
                 clear h1 h2))
            exact ⟨⟨k + 1, by omega, by go_num, Lib.hid (HE.out _ H2.out H1.out), Lib.hid (HTU.out.trans H2.out)⟩, by simp [intOf]; omega⟩
        · have hkc2 : k = c := by omega
          have ki : ¬ ((k : Int) < c) := by omega
          have HE : Hid (Sv w bx ((x.blocks.take (b + 1)).foldl kBlk fun _ => 0) wr) := Lib.hid (by
            rw [HFA.out]
            have h := HSI.out
            rw [hkc2, HC.out, List.take_length] at h
            exact h)
          go_wp2
          exact ⟨⟨b + 1, by omega, by go_num, HE⟩, by simp [intOf]; omega⟩
    · have hbn2 : b = n := by omega
      have bi : ¬ ((b : Int) < n) := by omega
      have HT0 : Hid (Sv w bx ((x.params.take 0).foldl kPar (x.blocks.foldl kBlk fun _ => 0)) wr) := Lib.hid (by
        have h := HS.out
        rw [hbn2, HN.out, List.take_length] at h
        exact h)
      go_wp2
      clear y0 y1 y2 y3
      go_loopw [50] (fun i wq => ∃ k : Nat, k ≤ m ∧ i = .int .i64 k ∧ Hid (Sv w bx ((x.params.take k).foldl kPar (x.blocks.foldl kBlk fun _ => 0)) wq)) (fun i _ => m - (intOf i).toNat)
      case atStart => exact ⟨0, Nat.zero_le _, rfl, HT0⟩
      case round =>
        obtain ⟨k, hk, rfl, HSI⟩ := hrel
        by_cases hkc : k < m
        · have ki : (k : Int) < m := by omega
          have k0 : (0 : Int) ≤ k := by omega
          obtain ⟨a, ha⟩ : ∃ a, x.params[k]? = some a := ⟨_, List.getElem?_eq_getElem (by have := HM.out; omega)⟩
          obtain ⟨g5, o5, c5, hv, hc0, hg5, hc2, hc3⟩ := ints_cell (HPA.out.below HSI.out.below) ha
          rw [← HM.out] at hv hc2
          injection hv with e1 _ e3
          subst e1 e3
          have k2 : (m : Int) ≤ pc := by omega
          have k3 : (pc : Int) ≤ 9223372036854775807 := by omega
          have HF2 := Lib.hid (fold_at (f := kPar) (b := x.blocks.foldl kBlk fun _ => 0) ha)
          have HKE := Lib.hid (keep_any HSI.out.reg a 2 (HP.out a (List.mem_of_getElem? ha)))
          clear ha hc2 hc3
          go_wp2_with (
            go_at_call 63
            refine HKE.out.mono ?_
            rintro e w6 ⟨rfl, h1, h2⟩
            have H1 := Lib.hid h1
            have H2 := Lib.hid h2
            clear h1 h2)
          exact ⟨⟨k + 1, by omega, by go_num, Lib.hid (by rw [HF2.out]; exact HSI.out.turn H2.out H1.out)⟩, by simp [intOf]; omega⟩
        · have hkc2 : k = m := by omega
          have ki : ¬ ((k : Int) < m) := by omega
          obtain ⟨y0, y1, y2, y3⟩ := HBX.out _ _ HSI.out
          have HT1 : Hid (Sv w bx ((nl.take 0).foldl kNeed (x.params.foldl kPar (x.blocks.foldl kBlk fun _ => 0))) wr) := Lib.hid (by
            have h := HSI.out
            rw [hkc2, HM.out, List.take_length] at h
            exact h)
          clear HT0
          have HT0 := HT1
          go_wp2
          clear y0 y1 y2 y3 HT1
          go_loopw [59] (fun i wq => ∃ k : Nat, k ≤ r ∧ i = .int .i64 k ∧ Hid (Sv w bx ((nl.take k).foldl kNeed (x.params.foldl kPar (x.blocks.foldl kBlk fun _ => 0))) wq)) (fun i _ => r - (intOf i).toNat)
          case atStart => exact ⟨0, Nat.zero_le _, rfl, HT0⟩
          case round =>
            obtain ⟨k, hk, rfl, HSI⟩ := hrel
            by_cases hkc : k < r
            · have ki : (k : Int) < r := by omega
              have k0 : (0 : Int) ≤ k := by omega
              obtain ⟨a, ha⟩ : ∃ a, nl[k]? = some a := ⟨_, List.getElem?_eq_getElem (by have := HR.out; omega)⟩
              obtain ⟨g5, o5, c5, hv, hc0, hg5, hc2, hc3⟩ := ints_cell (HNL.out.below HSI.out.below) ha
              rw [← HR.out] at hv hc2
              injection hv with e1 _ e3
              subst e1 e3
              have k2 : (r : Int) ≤ nc := by omega
              have k3 : (nc : Int) ≤ 9223372036854775807 := by omega
              have HF2 := Lib.hid (fold_at (f := kNeed) (b := x.params.foldl kPar (x.blocks.foldl kBlk fun _ => 0)) ha)
              have HKE := Lib.hid (keep_any HSI.out.reg a 3 (HNP.out a (List.mem_of_getElem? ha)))
              clear ha hc2 hc3
              go_wp2_with (
                go_at_call 63
                refine HKE.out.mono ?_
                rintro e w6 ⟨rfl, h1, h2⟩
                have H1 := Lib.hid h1
                have H2 := Lib.hid h2
                clear h1 h2)
              exact ⟨⟨k + 1, by omega, by go_num, Lib.hid (by rw [HF2.out]; exact HSI.out.turn H2.out H1.out)⟩, by simp [intOf]; omega⟩
            · have hkc2 : k = r := by omega
              have ki : ¬ ((k : Int) < r) := by omega
              obtain ⟨y0, y1, y2, y3⟩ := HBX.out _ _ HSI.out
              have HT1 : Hid (Sv w bx ((x.arrays.take 0).foldl kArr (nl.foldl kNeed (x.params.foldl kPar (x.blocks.foldl kBlk fun _ => 0)))) wr) := Lib.hid (by
                have h := HSI.out
                rw [hkc2, HR.out, List.take_length] at h
                exact h)
              clear HT0
              have HT0 := HT1
              go_wp2
              clear y0 y1 y2 y3 HT1
              go_loopw [69] (fun i wq => ∃ k : Nat, k ≤ q ∧ i = .int .i64 k ∧ Hid (Sv w bx ((x.arrays.take k).foldl kArr (nl.foldl kNeed (x.params.foldl kPar (x.blocks.foldl kBlk fun _ => 0)))) wq)) (fun i _ => q - (intOf i).toNat)
              case atStart => exact ⟨0, Nat.zero_le _, rfl, HT0⟩
              case round =>
                obtain ⟨k, hk, rfl, HSI⟩ := hrel
                by_cases hkc : k < q
                · have ki : (k : Int) < q := by omega
                  have k0 : (0 : Int) ≤ k := by omega
                  obtain ⟨a, ha⟩ : ∃ a, x.arrays[k]? = some a := ⟨_, List.getElem?_eq_getElem (by have := HQ.out; omega)⟩
                  obtain ⟨g5, o5, c5, hv, hc0, hc1, hg5, hc2, hc3⟩ := arrs_cell (HAR.out.below HSI.out.below) ha
                  rw [← HQ.out] at hv hc2
                  injection hv with e1 _ e3
                  subst e1 e3
                  have k2 : (q : Int) ≤ ac := by omega
                  have k3 : (ac : Int) ≤ 9223372036854775807 := by omega
                  have HF2 := Lib.hid (fold_at (f := kArr) (b := nl.foldl kNeed (x.params.foldl kPar (x.blocks.foldl kBlk fun _ => 0))) ha)
                  have HSA : Hid (Sv w bx ((x.arrays.take k).foldl kArr (nl.foldl kNeed (x.params.foldl kPar (x.blocks.foldl kBlk fun _ => 0)))) (wr.alloc (.cells #[.int .i64 a.kind, .int .i64 a.n] 59))) := Lib.hid (HSI.out.grow (Graph.below_alloc wr _))
                  have HNA := Lib.hid (arrs_box (w := wr) a)
                  clear ha hc2 hc3
                  go_upto_region 26 with (fail)
                  generalize wr.alloc (.cells #[.int .i64 a.kind, .int .i64 a.n] 59) = W2 at HSA HNA ⊢
                  clear hc0 hc1
                  obtain ⟨d0, _⟩ := cell_of_block HNA.out (k := 0) rfl
                  have HKE := Lib.hid (keep_any HSA.out.reg 0 4 (Int.le_refl _))
                  by_cases h2 : a.kind = 2
                  · have e2 : (a.kind == 2) = true := by simpa using h2
                    have HKK : Hid (∀ K, kArr K a = kp K 0 4) := Lib.hid (fun K => by unfold kArr; rw [if_pos h2])
                    clear h2
                    go_wp2_with (
                      go_at_call 63
                      refine HKE.out.mono ?_
                      rintro e w6 ⟨rfl, h1, h2⟩
                      have H1 := Lib.hid h1
                      have H2 := Lib.hid h2
                      clear h1 h2)
                    exact ⟨⟨k + 1, by omega, by go_num, Lib.hid (by rw [HF2.out, HKK.out]; exact HSA.out.turn H2.out H1.out)⟩, by simp [intOf]; omega⟩
                  · have e2 : (a.kind == 2) = false := by simpa using h2
                    have HKK : Hid (∀ K, kArr K a = K) := Lib.hid (fun K => by unfold kArr; rw [if_neg h2])
                    clear h2
                    go_wp2
                    exact ⟨⟨k + 1, by omega, by go_num, Lib.hid (by rw [HF2.out, HKK.out]; exact HSA.out)⟩, by simp [intOf]; omega⟩
                · have hkc2 : k = q := by omega
                  have ki : ¬ ((k : Int) < q) := by omega
                  have HK1 : Hid (Sv w bx (kAll x nl) wr) := Lib.hid (by
                    have h := HSI.out
                    rw [hkc2, HQ.out, List.take_length] at h
                    exact h)
                  obtain ⟨K, hKA⟩ : ∃ K, K = kAll x nl := ⟨_, rfl⟩
                  have HKA := Lib.hid hKA
                  rw [← hKA] at HK1
                  clear hKA
                  have hlit := HK1.out.reg.lit
                  obtain ⟨z0, _⟩ := cell_of_block hlit (k := 0) rfl
                  obtain ⟨z1, _⟩ := cell_of_block hlit (k := 1) rfl
                  obtain ⟨z2, _⟩ := cell_of_block hlit (k := 2) rfl
                  obtain ⟨z3, _⟩ := cell_of_block hlit (k := 3) rfl
                  obtain ⟨z4, _⟩ := cell_of_block hlit (k := 4) rfl
                  obtain ⟨z5, _⟩ := cell_of_block hlit (k := 5) rfl
                  obtain ⟨z6, _⟩ := cell_of_block hlit (k := 6) rfl
                  obtain ⟨z7, _⟩ := cell_of_block hlit (k := 7) rfl
                  obtain ⟨z8, _⟩ := cell_of_block hlit (k := 8) rfl
                  have HWB : Hid (Below w.heap.size w wr) := Lib.hid HK1.out.below
                  clear hlit HSI HT0
                  go_wp2
                  clear z0 z1 z2 z3 z4 z5 z6 z7 z8
                  generalize hvv : Value.agg #[.int .i64 (K 0), .int .i64 (K 1), .int .i64 (K 2), .int .i64 (K 3), .int .i64 (K 4), .int .i64 (K 5), .int .i64 (K 6), .int .i64 (K 7), .int .i64 (K 8)] = vv
                  have HIX : Hid (∀ (k : Nat) (W : World), k < 9 → (Instr.index 112 vv (.int .i64 (k : Nat))).run Tryd.prog W = .ok (.int .i64 (K k)) W) := Lib.hid (fun k W hk => by rw [← hvv]; exact index_at K W k hk)
                  clear hvv
                  go_loopw [15, 79] (fun v i wq => ∃ k : Nat, k ≤ 9 ∧ i = .int .i64 k ∧ Hid (wq.ownsRow w.heap.size 3 1 v (regQ K k).length ((regQ K k).map iN)) ∧ Hid (Below w.heap.size w wq)) (fun _ i _ => 9 - (intOf i).toNat)
                  case atStart => exact ⟨0, Nat.zero_le _, rfl, Lib.hid (World.ownsRow_nil _ _ _ _), HWB⟩
                  case round =>
                    obtain ⟨k, hk, rfl, HV, HBQ⟩ := hrel
                    by_cases hk9 : k < 9
                    · have ki : (k : Int) < 9 := by omega
                      have HQS := Lib.hid (regQ_succ K k)
                      obtain ⟨i0, hi, hz0, hz1, hz2⟩ := info_parts info_int
                      have HI := Lib.hid hi
                      have HV3 := Lib.hid (own_below HV.out (Graph.below_alloc wr (.cells #[.int .i64 (k : Int)] 3)))
                      have HB3 : Hid (Below w.heap.size w (wr.alloc (.cells #[.int .i64 (k : Int)] 3))) := Lib.hid (below_then HBQ.out (Graph.below_alloc wr _))
                      have HNW := Lib.hid (news_one (w := wr) (x := (k : Int)) (H := wr.heap.size) (t := 3) rfl)
                      have HLEN : Hid ((regQ K k).length ≤ 9) := Lib.hid (by have := regQ_len K k; omega)
                      have HFIN : Hid (∀ (w7 : World) (g5 c5 : Nat), K k ≠ 0 → w7.ownsRow w.heap.size 3 1 (.slice (some ⟨g5, 0, none⟩) ((regQ K k).length + 1) c5) ((regQ K k).length + 1) ((regQ K k).map iN ++ [iN k]) → (wr.alloc (.cells #[.int .i64 (k : Int)] 3)).grownBy w7 u15.ownBlock → w7.ownsRow w.heap.size 3 1 (.slice (some ⟨g5, 0, none⟩) ((regQ K k).length + 1) c5) (regQ K (k + 1)).length ((regQ K (k + 1)).map iN) ∧ Below w.heap.size w w7) := Lib.hid (fun w7 g5 c5 hz h5 h6 => by
                        rw [HQS.out, if_neg hz, List.length_append, List.map_append]
                        exact ⟨h5, Below.grown HB3.out h6 HB3.out.size (fun y hy => (HV.out.lt y hy).1)⟩)
                      have HST : Hid (K k = 0 → wr.ownsRow w.heap.size 3 1 u15 (regQ K (k + 1)).length ((regQ K (k + 1)).map iN)) := Lib.hid (fun hz => by rw [HQS.out, if_pos hz]; exact HV.out)
                      clear hi HQS
                      obtain rfl | rfl | rfl | rfl | rfl | rfl | rfl | rfl | rfl : k = 0 ∨ k = 1 ∨ k = 2 ∨ k = 3 ∨ k = 4 ∨ k = 5 ∨ k = 6 ∨ k = 7 ∨ k = 8 := by omega
                      · have hix : ∀ W, (Instr.index 112 vv (.int .i64 0)).run Tryd.prog W = .ok (.int .i64 (K 0)) W := fun W => HIX.out 0 W (by omega)
                        by_cases z : K 0 = 0
                        · have HS2 := Lib.hid (HST.out z)
                          have ez : (K 0 == 0) = true := by simpa using z
                          clear z
                          go_wp2
                          exact ⟨⟨1, by omega, by go_num, HS2, HBQ⟩, by simp [intOf]⟩
                        · have HZ := Lib.hid z
                          have ez : (K 0 == 0) = false := by simpa using z
                          clear z
                          go_wp2_with (
                            at_builtin
                            go_loud (refine wpList_append_lies _ (by rfl) _ _ 22 (by rfl) w.heap.size 3 i0 _ 1 8 Tryd.underlying22 HI.out hz0 hz1 hz2 rfl (by omega) _ (regQ K 0).length _ (by rfl) HV3.out ⟨wr.heap.size, 0, none⟩ 1 1 [.int .i64 ((0 : Nat) : Int)] (by rfl) rfl HNW.out (by simp [Value.oneCell']) (by omega) (by unfold maxLen; have := HLEN.out; omega) (by have := HLEN.out; omega) HB3.out.size _ rfl ?_)
                            intro g5 c5 w7 h5 h6 h7 h8
                            have HFF := Lib.hid (HFIN.out w7 g5 c5 HZ.out h5 h6)
                            clear h5 h6 h7 h8)
                          exact ⟨⟨1, by omega, by go_num, Lib.hid HFF.out.1, Lib.hid HFF.out.2⟩, by simp [intOf]⟩
                      · have hix : ∀ W, (Instr.index 112 vv (.int .i64 1)).run Tryd.prog W = .ok (.int .i64 (K 1)) W := fun W => HIX.out 1 W (by omega)
                        by_cases z : K 1 = 0
                        · have HS2 := Lib.hid (HST.out z)
                          have ez : (K 1 == 0) = true := by simpa using z
                          clear z
                          go_wp2
                          exact ⟨⟨2, by omega, by go_num, HS2, HBQ⟩, by simp [intOf]⟩
                        · have HZ := Lib.hid z
                          have ez : (K 1 == 0) = false := by simpa using z
                          clear z
                          go_wp2_with (
                            at_builtin
                            go_loud (refine wpList_append_lies _ (by rfl) _ _ 22 (by rfl) w.heap.size 3 i0 _ 1 8 Tryd.underlying22 HI.out hz0 hz1 hz2 rfl (by omega) _ (regQ K 1).length _ (by rfl) HV3.out ⟨wr.heap.size, 0, none⟩ 1 1 [.int .i64 ((1 : Nat) : Int)] (by rfl) rfl HNW.out (by simp [Value.oneCell']) (by omega) (by unfold maxLen; have := HLEN.out; omega) (by have := HLEN.out; omega) HB3.out.size _ rfl ?_)
                            intro g5 c5 w7 h5 h6 h7 h8
                            have HFF := Lib.hid (HFIN.out w7 g5 c5 HZ.out h5 h6)
                            clear h5 h6 h7 h8)
                          exact ⟨⟨2, by omega, by go_num, Lib.hid HFF.out.1, Lib.hid HFF.out.2⟩, by simp [intOf]⟩
                      · have hix : ∀ W, (Instr.index 112 vv (.int .i64 2)).run Tryd.prog W = .ok (.int .i64 (K 2)) W := fun W => HIX.out 2 W (by omega)
                        by_cases z : K 2 = 0
                        · have HS2 := Lib.hid (HST.out z)
                          have ez : (K 2 == 0) = true := by simpa using z
                          clear z
                          go_wp2
                          exact ⟨⟨3, by omega, by go_num, HS2, HBQ⟩, by simp [intOf]⟩
                        · have HZ := Lib.hid z
                          have ez : (K 2 == 0) = false := by simpa using z
                          clear z
                          go_wp2_with (
                            at_builtin
                            go_loud (refine wpList_append_lies _ (by rfl) _ _ 22 (by rfl) w.heap.size 3 i0 _ 1 8 Tryd.underlying22 HI.out hz0 hz1 hz2 rfl (by omega) _ (regQ K 2).length _ (by rfl) HV3.out ⟨wr.heap.size, 0, none⟩ 1 1 [.int .i64 ((2 : Nat) : Int)] (by rfl) rfl HNW.out (by simp [Value.oneCell']) (by omega) (by unfold maxLen; have := HLEN.out; omega) (by have := HLEN.out; omega) HB3.out.size _ rfl ?_)
                            intro g5 c5 w7 h5 h6 h7 h8
                            have HFF := Lib.hid (HFIN.out w7 g5 c5 HZ.out h5 h6)
                            clear h5 h6 h7 h8)
                          exact ⟨⟨3, by omega, by go_num, Lib.hid HFF.out.1, Lib.hid HFF.out.2⟩, by simp [intOf]⟩
                      · have hix : ∀ W, (Instr.index 112 vv (.int .i64 3)).run Tryd.prog W = .ok (.int .i64 (K 3)) W := fun W => HIX.out 3 W (by omega)
                        by_cases z : K 3 = 0
                        · have HS2 := Lib.hid (HST.out z)
                          have ez : (K 3 == 0) = true := by simpa using z
                          clear z
                          go_wp2
                          exact ⟨⟨4, by omega, by go_num, HS2, HBQ⟩, by simp [intOf]⟩
                        · have HZ := Lib.hid z
                          have ez : (K 3 == 0) = false := by simpa using z
                          clear z
                          go_wp2_with (
                            at_builtin
                            go_loud (refine wpList_append_lies _ (by rfl) _ _ 22 (by rfl) w.heap.size 3 i0 _ 1 8 Tryd.underlying22 HI.out hz0 hz1 hz2 rfl (by omega) _ (regQ K 3).length _ (by rfl) HV3.out ⟨wr.heap.size, 0, none⟩ 1 1 [.int .i64 ((3 : Nat) : Int)] (by rfl) rfl HNW.out (by simp [Value.oneCell']) (by omega) (by unfold maxLen; have := HLEN.out; omega) (by have := HLEN.out; omega) HB3.out.size _ rfl ?_)
                            intro g5 c5 w7 h5 h6 h7 h8
                            have HFF := Lib.hid (HFIN.out w7 g5 c5 HZ.out h5 h6)
                            clear h5 h6 h7 h8)
                          exact ⟨⟨4, by omega, by go_num, Lib.hid HFF.out.1, Lib.hid HFF.out.2⟩, by simp [intOf]⟩
                      · have hix : ∀ W, (Instr.index 112 vv (.int .i64 4)).run Tryd.prog W = .ok (.int .i64 (K 4)) W := fun W => HIX.out 4 W (by omega)
                        by_cases z : K 4 = 0
                        · have HS2 := Lib.hid (HST.out z)
                          have ez : (K 4 == 0) = true := by simpa using z
                          clear z
                          go_wp2
                          exact ⟨⟨5, by omega, by go_num, HS2, HBQ⟩, by simp [intOf]⟩
                        · have HZ := Lib.hid z
                          have ez : (K 4 == 0) = false := by simpa using z
                          clear z
                          go_wp2_with (
                            at_builtin
                            go_loud (refine wpList_append_lies _ (by rfl) _ _ 22 (by rfl) w.heap.size 3 i0 _ 1 8 Tryd.underlying22 HI.out hz0 hz1 hz2 rfl (by omega) _ (regQ K 4).length _ (by rfl) HV3.out ⟨wr.heap.size, 0, none⟩ 1 1 [.int .i64 ((4 : Nat) : Int)] (by rfl) rfl HNW.out (by simp [Value.oneCell']) (by omega) (by unfold maxLen; have := HLEN.out; omega) (by have := HLEN.out; omega) HB3.out.size _ rfl ?_)
                            intro g5 c5 w7 h5 h6 h7 h8
                            have HFF := Lib.hid (HFIN.out w7 g5 c5 HZ.out h5 h6)
                            clear h5 h6 h7 h8)
                          exact ⟨⟨5, by omega, by go_num, Lib.hid HFF.out.1, Lib.hid HFF.out.2⟩, by simp [intOf]⟩
                      · have hix : ∀ W, (Instr.index 112 vv (.int .i64 5)).run Tryd.prog W = .ok (.int .i64 (K 5)) W := fun W => HIX.out 5 W (by omega)
                        by_cases z : K 5 = 0
                        · have HS2 := Lib.hid (HST.out z)
                          have ez : (K 5 == 0) = true := by simpa using z
                          clear z
                          go_wp2
                          exact ⟨⟨6, by omega, by go_num, HS2, HBQ⟩, by simp [intOf]⟩
                        · have HZ := Lib.hid z
                          have ez : (K 5 == 0) = false := by simpa using z
                          clear z
                          go_wp2_with (
                            at_builtin
                            go_loud (refine wpList_append_lies _ (by rfl) _ _ 22 (by rfl) w.heap.size 3 i0 _ 1 8 Tryd.underlying22 HI.out hz0 hz1 hz2 rfl (by omega) _ (regQ K 5).length _ (by rfl) HV3.out ⟨wr.heap.size, 0, none⟩ 1 1 [.int .i64 ((5 : Nat) : Int)] (by rfl) rfl HNW.out (by simp [Value.oneCell']) (by omega) (by unfold maxLen; have := HLEN.out; omega) (by have := HLEN.out; omega) HB3.out.size _ rfl ?_)
                            intro g5 c5 w7 h5 h6 h7 h8
                            have HFF := Lib.hid (HFIN.out w7 g5 c5 HZ.out h5 h6)
                            clear h5 h6 h7 h8)
                          exact ⟨⟨6, by omega, by go_num, Lib.hid HFF.out.1, Lib.hid HFF.out.2⟩, by simp [intOf]⟩
                      · have hix : ∀ W, (Instr.index 112 vv (.int .i64 6)).run Tryd.prog W = .ok (.int .i64 (K 6)) W := fun W => HIX.out 6 W (by omega)
                        by_cases z : K 6 = 0
                        · have HS2 := Lib.hid (HST.out z)
                          have ez : (K 6 == 0) = true := by simpa using z
                          clear z
                          go_wp2
                          exact ⟨⟨7, by omega, by go_num, HS2, HBQ⟩, by simp [intOf]⟩
                        · have HZ := Lib.hid z
                          have ez : (K 6 == 0) = false := by simpa using z
                          clear z
                          go_wp2_with (
                            at_builtin
                            go_loud (refine wpList_append_lies _ (by rfl) _ _ 22 (by rfl) w.heap.size 3 i0 _ 1 8 Tryd.underlying22 HI.out hz0 hz1 hz2 rfl (by omega) _ (regQ K 6).length _ (by rfl) HV3.out ⟨wr.heap.size, 0, none⟩ 1 1 [.int .i64 ((6 : Nat) : Int)] (by rfl) rfl HNW.out (by simp [Value.oneCell']) (by omega) (by unfold maxLen; have := HLEN.out; omega) (by have := HLEN.out; omega) HB3.out.size _ rfl ?_)
                            intro g5 c5 w7 h5 h6 h7 h8
                            have HFF := Lib.hid (HFIN.out w7 g5 c5 HZ.out h5 h6)
                            clear h5 h6 h7 h8)
                          exact ⟨⟨7, by omega, by go_num, Lib.hid HFF.out.1, Lib.hid HFF.out.2⟩, by simp [intOf]⟩
                      · have hix : ∀ W, (Instr.index 112 vv (.int .i64 7)).run Tryd.prog W = .ok (.int .i64 (K 7)) W := fun W => HIX.out 7 W (by omega)
                        by_cases z : K 7 = 0
                        · have HS2 := Lib.hid (HST.out z)
                          have ez : (K 7 == 0) = true := by simpa using z
                          clear z
                          go_wp2
                          exact ⟨⟨8, by omega, by go_num, HS2, HBQ⟩, by simp [intOf]⟩
                        · have HZ := Lib.hid z
                          have ez : (K 7 == 0) = false := by simpa using z
                          clear z
                          go_wp2_with (
                            at_builtin
                            go_loud (refine wpList_append_lies _ (by rfl) _ _ 22 (by rfl) w.heap.size 3 i0 _ 1 8 Tryd.underlying22 HI.out hz0 hz1 hz2 rfl (by omega) _ (regQ K 7).length _ (by rfl) HV3.out ⟨wr.heap.size, 0, none⟩ 1 1 [.int .i64 ((7 : Nat) : Int)] (by rfl) rfl HNW.out (by simp [Value.oneCell']) (by omega) (by unfold maxLen; have := HLEN.out; omega) (by have := HLEN.out; omega) HB3.out.size _ rfl ?_)
                            intro g5 c5 w7 h5 h6 h7 h8
                            have HFF := Lib.hid (HFIN.out w7 g5 c5 HZ.out h5 h6)
                            clear h5 h6 h7 h8)
                          exact ⟨⟨8, by omega, by go_num, Lib.hid HFF.out.1, Lib.hid HFF.out.2⟩, by simp [intOf]⟩
                      · have hix : ∀ W, (Instr.index 112 vv (.int .i64 8)).run Tryd.prog W = .ok (.int .i64 (K 8)) W := fun W => HIX.out 8 W (by omega)
                        by_cases z : K 8 = 0
                        · have HS2 := Lib.hid (HST.out z)
                          have ez : (K 8 == 0) = true := by simpa using z
                          clear z
                          go_wp2
                          exact ⟨⟨9, by omega, by go_num, HS2, HBQ⟩, by simp [intOf]⟩
                        · have HZ := Lib.hid z
                          have ez : (K 8 == 0) = false := by simpa using z
                          clear z
                          go_wp2_with (
                            at_builtin
                            go_loud (refine wpList_append_lies _ (by rfl) _ _ 22 (by rfl) w.heap.size 3 i0 _ 1 8 Tryd.underlying22 HI.out hz0 hz1 hz2 rfl (by omega) _ (regQ K 8).length _ (by rfl) HV3.out ⟨wr.heap.size, 0, none⟩ 1 1 [.int .i64 ((8 : Nat) : Int)] (by rfl) rfl HNW.out (by simp [Value.oneCell']) (by omega) (by unfold maxLen; have := HLEN.out; omega) (by have := HLEN.out; omega) HB3.out.size _ rfl ?_)
                            intro g5 c5 w7 h5 h6 h7 h8
                            have HFF := Lib.hid (HFIN.out w7 g5 c5 HZ.out h5 h6)
                            clear h5 h6 h7 h8)
                          exact ⟨⟨9, by omega, by go_num, Lib.hid HFF.out.1, Lib.hid HFF.out.2⟩, by simp [intOf]⟩
                    · have hk92 : k = 9 := by omega
                      subst hk92
                      go_wp2
                      go_ret
                      refine ⟨_, rfl, ?_, HBQ.out⟩
                      rw [← HKA.out]
                      exact HV.out
end Go.Proofs.YtcijaaiopfbffaaDoor.Live
