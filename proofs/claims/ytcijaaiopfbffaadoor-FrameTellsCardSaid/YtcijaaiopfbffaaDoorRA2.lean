/- The document's Fits: temps, Edges. No condition but sizes. -/
import Derived.Test.YtcijaaiopfbffaaDoorVN
namespace Go.Proofs.YtcijaaiopfbffaaDoor.Live
open Go.RowKit Go.Proofs.YtcijaaiopfbffaaDoor.Graph Go.Shelf

set_option maxHeartbeats 4000000 in
set_option maxRecDepth 100000 in
theorem temps13_any (l : List Int) (v : Value) (m : Int) (w : World) (h : IntsR w v l) :
    Calls Tryd.prog 41 #[v, .int .i64 m] w fun e w' => e = .returned (.bool (l.all (belowB · m))) ∧ w' = w := by
  obtain ⟨p, c, rfl⟩ := h.form
  have HL := Lib.hid h
  obtain ⟨n, hn⟩ : ∃ n, n = l.length := ⟨_, rfl⟩
  have HN := Lib.hid hn
  rw [← hn]
  clear h hn
  go_enter Tryd.func41, Tryd.ntmps41
  go_wp2
  go_loopw [5] (fun i wr => ∃ k : Nat, k ≤ n ∧ i = .int .i64 k ∧ wr = w ∧ Hid (∀ j x, j < k → l[j]? = some x → belowB x m = true)) (fun i _ => n - (intOf i).toNat)
  case atStart => exact ⟨0, Nat.zero_le _, rfl, rfl, Lib.hid (fun j x hj => absurd hj (Nat.not_lt_zero _))⟩
  case round =>
    obtain ⟨k, hk, rfl, rfl, HA⟩ := hrel
    by_cases hkn : k < n
    · obtain ⟨x, hx⟩ : ∃ x, l[k]? = some x := ⟨_, List.getElem?_eq_getElem (by have := HN.out; omega)⟩
      obtain ⟨g, o, c', hv, hc, hg, hc1, hc2⟩ := ints_cell HL.out hx
      rw [← HN.out] at hv hc1
      injection hv with e1 _ e3
      subst e1 e3
      have ki : (k : Int) < n := by omega
      have k0 : (0 : Int) ≤ k := by omega
      have k2 : (n : Int) ≤ c := by omega
      have k3 : (c : Int) ≤ 9223372036854775807 := by omega
      have HX := Lib.hid hx
      have HNO : Hid (belowB x m = false → l.all (belowB · m) = false) := Lib.hid (fun hf => by
        cases hq : l.all (belowB · m)
        · rfl
        · have := List.all_eq_true.1 hq x (List.mem_of_getElem? hx)
          rw [hf] at this; cases this)
      clear hx hc1 hc2
      by_cases x0 : x < 0
      · have hr : Hid (l.all (belowB · m) = false) := Lib.hid (HNO.out (by unfold belowB; rw [decide_eq_false (by omega)]; rfl))
        go_wp2
        go_ret
        exact ⟨by rw [hr.out]; rfl, rfl⟩
      by_cases x1 : m ≤ x
      · have hr : Hid (l.all (belowB · m) = false) := Lib.hid (HNO.out (by unfold belowB; rw [decide_eq_false (show ¬ x < m by omega), Bool.and_false]))
        go_wp2
        go_ret
        exact ⟨by rw [hr.out]; rfl, rfl⟩
      have HOK : Hid (belowB x m = true) := Lib.hid (by unfold belowB; simp; omega)
      go_wp2
      exact ⟨⟨k + 1, by omega, by go_num, (by first | trivial | rfl), Lib.hid (fun j y hj hy => by
        by_cases e : j = k
        · subst e
          rw [HX.out] at hy
          injection hy with hy
          rw [← hy]; exact HOK.out
        · exact HA.out j y (by omega) hy)⟩, by simp [intOf]; omega⟩
    · have hkn2 : k = n := by omega
      have hki : ¬ ((k : Int) < n) := by omega
      have hr : Hid (l.all (belowB · m) = true) := Lib.hid (List.all_eq_true.2 (fun x hx => by
        obtain ⟨j, hj, e⟩ := List.mem_iff_getElem.1 hx
        exact HA.out j x (by have := HN.out; omega) (by rw [List.getElem?_eq_getElem hj, e])))
      go_wp2
      go_ret
      exact ⟨by rw [hr.out]; rfl, rfl⟩
/-- Does a graph walk? -/
def walksB (x : PGr) : Bool := decide (1 ≤ x.blocks.length ∧ x.blocks.length ≤ 20000) && x.blocks.all fun b => (namedN b.fin).all (belowB · x.blocks.length)
theorem walks_not {x : PGr} {k : Nat} {t : PBlk} {s : Int} (ht : x.blocks[k]? = some t) (hs : s ∈ namedN t.fin) (h : belowB s x.blocks.length = false) : walksB x = false := by
  unfold walksB
  have : (x.blocks.all fun b => (namedN b.fin).all (belowB · x.blocks.length)) = false := by
    cases hq : (x.blocks.all fun b => (namedN b.fin).all (belowB · x.blocks.length))
    · rfl
    · have h1 := List.all_eq_true.1 hq t (List.mem_of_getElem? ht)
      have h2 := List.all_eq_true.1 h1 s hs
      rw [h] at h2; cases h2
  rw [this, Bool.and_false]
theorem info_ints28 : (Tryd.prog.info? 22).map (fun i => (i.zero, i.size, i.bytes)) = some (some (.slice none 0 0), 1, 24) := by kernel_rfl
theorem news_row {w : World} {v : Value} {H : Nat} {t : TypeId} (hH : w.heap.size = H) : ∀ j u, [v][j]? = some u → (w.alloc (.cells #[v] t)).cell? ((⟨H, 0, none⟩ : Addr).add j) = some u := by
  subst hH
  intro j u hj
  cases j with
  | zero =>
    injection hj with hj
    subst hj
    exact (Graph.cell_of_block (Graph.heap_new w _) (k := 0) rfl).1
  | succ j => simp at hj
set_option maxHeartbeats 8000000 in
set_option maxRecDepth 100000 in
theorem edges_any (x : PGr) (vp va vb : Value) (w : World) (h : GrL w vp va vb x) (hs : SmG x) :
    Calls Tryd.prog 40 #[grV x vp va vb] w fun e w' => (∃ v, e = .returned (.tuple #[v, .bool (walksB x)])) ∧ Below w.heap.size w w' := by
  obtain ⟨pp, pc, rfl⟩ := h.params.form
  obtain ⟨ap, ac, rfl⟩ := h.arrays.form
  have HG := Lib.hid h
  have HBK := Lib.hid h.blocks
  obtain ⟨bp, bc, rfl⟩ := h.blocks.form
  have HNX := Lib.hid (fun (W : World) (hW : Below w.heap.size w W) (b : Int) => rnext_any x _ _ _ b W (HG.out.below hW) hs)
  unfold grV at HNX ⊢
  obtain ⟨n, hn⟩ : ∃ n, n = x.blocks.length := ⟨_, rfl⟩
  have HN := Lib.hid hn
  rw [← hn] at HNX ⊢
  by_cases hn0 : n = 0
  · have hr : Hid (walksB x = false) := Lib.hid (by unfold walksB; rw [decide_eq_false (by omega), Bool.false_and])
    subst hn0
    clear h hs hn
    go_enter Tryd.func40, Tryd.ntmps40
    go_wp2
    go_ret2
    exact ⟨⟨_, by rw [hr.out]; rfl⟩, Graph.below_alloc w _⟩
  by_cases hn2 : 20000 < n
  · have hr : Hid (walksB x = false) := Lib.hid (by unfold walksB; rw [decide_eq_false (by omega), Bool.false_and])
    have n1 : ¬ ((n : Int) < 1) := by omega
    have n2 : (20000 : Int) < n := by omega
    clear h hs hn0 hn2 hn
    go_enter Tryd.func40, Tryd.ntmps40
    go_wp2
    go_ret2
    exact ⟨⟨_, by rw [hr.out]; rfl⟩, Graph.below_alloc w _⟩
  have n1 : (1 : Int) ≤ n := by omega
  have n2 : (n : Int) ≤ 20000 := by omega
  have nn0 : 0 < n := by omega
  have HN2 : Hid (n ≤ 20000) := Lib.hid (by omega)
  clear h hs hn0 hn2 hn
  go_enter Tryd.func40, Tryd.ntmps40
  have HX1 : Hid ((w.alloc (.cells #[.slice pp x.params.length pc, .int .i64 x.temps, .slice ap x.arrays.length ac, .slice bp n bc] 26)).heap[w.heap.size]? = some (.cells #[.slice pp x.params.length pc, .int .i64 x.temps, .slice ap x.arrays.length ac, .slice bp n bc] 26 (0, 0))) := Lib.hid (heap_new w _)
  have HB1 := Lib.hid (Graph.below_alloc w (.cells #[.slice pp x.params.length pc, .int .i64 x.temps, .slice ap x.arrays.length ac, .slice bp n bc] 26))
  go_wp2
  generalize w.alloc (.cells #[.slice pp x.params.length pc, .int .i64 x.temps, .slice ap x.arrays.length ac, .slice bp n bc] 26) = w1 at HX1 HB1 ⊢
  have HBX : Hid (∀ W, Below w1.heap.size w1 W → W.cell? ⟨w.heap.size, 0, none⟩ = some (.slice pp x.params.length pc) ∧ W.cell? ⟨w.heap.size, 1, none⟩ = some (.int .i64 x.temps) ∧ W.cell? ⟨w.heap.size, 2, none⟩ = some (.slice ap x.arrays.length ac) ∧ W.cell? ⟨w.heap.size, 3, none⟩ = some (.slice bp n bc)) := Lib.hid (fun W hW => by
    have hb := (hW.block _ (Array.getElem?_eq_some_iff.1 HX1.out).1).trans HX1.out
    exact ⟨(cell_of_block hb (k := 0) rfl).1, (cell_of_block hb (k := 1) rfl).1, (cell_of_block hb (k := 2) rfl).1, (cell_of_block hb (k := 3) rfl).1⟩)
  go_loopw [4, 5] (fun o i wr => ∃ (k : Nat) (xs : List Value), k ≤ n ∧ i = .int .i64 k ∧ Hid (xs.length = k ∧ wr.ownsRow w1.heap.size 22 1 o k xs) ∧ Hid (Below w1.heap.size w1 wr) ∧ Hid (∀ j t s, j < k → x.blocks[j]? = some t → s ∈ namedN t.fin → belowB s n = true)) (fun _ i _ => n - (intOf i).toNat)
  case atStart => exact ⟨0, [], Nat.zero_le _, rfl, Lib.hid ⟨rfl, World.ownsRow_nil _ _ _ _⟩, Lib.hid (Below.refl _ _), Lib.hid (fun j t s hj => absurd hj (Nat.not_lt_zero _))⟩
  case round =>
    obtain ⟨k, xs, hk, rfl, HO, HB, HA⟩ := hrel
    obtain ⟨y0, y1, y2, y3⟩ := HBX.out wr HB.out
    by_cases hkn : k < n
    · have ki : (k : Int) < n := by omega
      have k0 : (0 : Int) ≤ k := by omega
      obtain ⟨t, ht⟩ : ∃ t, x.blocks[k]? = some t := ⟨_, List.getElem?_eq_getElem (by have := HN.out; omega)⟩
      have HLM : Hid (∀ s, s ∈ nextL x (k : Int) ↔ s ∈ namedN t.fin) := Lib.hid (next_mem ht)
      have HNK := Lib.hid (HNX.out wr (below_then HB1.out HB.out) (k : Int))
      generalize nextL x (k : Int) = LL at HLM HNK
      have HT := Lib.hid ht
      obtain ⟨m, hm⟩ : ∃ m, m = LL.length := ⟨_, rfl⟩
      have HM := Lib.hid hm
      obtain ⟨po, co, rfl, ho63⟩ := own_form HO.out.2
      clear ht hm
      go_wp2_with (
        go_at_call 15
        refine HNK.out.mono ?_
        rintro e w3 ⟨v3, rfl, h3, hb3⟩
        rw [← HM.out] at h3
        obtain ⟨p3, c3, rfl, hm3⟩ := own_form h3
        have H3 := Lib.hid h3
        have HB3 := Lib.hid hb3
        obtain ⟨z0, z1, z2, z3⟩ := HBX.out w3 (below_then HB.out hb3)
        clear h3 hb3)
      clear y0 y1 y2 y3
      have HBW3 : Hid (Below w1.heap.size w1 w3) := Lib.hid (below_then HB.out HB3.out)
      have HO3 : Hid (w3.ownsRow w1.heap.size 22 1 (.slice po k co) k xs) := Lib.hid (own_below HO.out.2 HB3.out)
      go_loopw [7] (fun i wq => ∃ j : Nat, j ≤ m ∧ i = .int .i64 j ∧ Hid (Below w3.heap.size w3 wq) ∧ Hid (∀ q s, q < j → LL[q]? = some s → belowB s n = true)) (fun i _ => m - (intOf i).toNat)
      case atStart => exact ⟨0, Nat.zero_le _, rfl, Lib.hid (Below.refl _ _), Lib.hid (fun q s hq => absurd hq (Nat.not_lt_zero _))⟩
      case round =>
        obtain ⟨j, hj, rfl, HW, HJ⟩ := hrel
        have HWW : Hid (Below w1.heap.size w1 wr) := Lib.hid (below_then HBW3.out HW.out)
        obtain ⟨z0, z1, z2, z3⟩ := HBX.out wr HWW.out
        by_cases hjm : j < m
        · obtain ⟨s, hsj⟩ : ∃ s, LL[j]? = some s := ⟨_, List.getElem?_eq_getElem (by have := HM.out; omega)⟩
          obtain ⟨g4, cc4, hv4, ce, _, _, _, hc1, hc2⟩ := own_cell (own_below H3.out HW.out) (k := j) (x := iv s) (by rw [List.getElem?_map, hsj]; rfl) hjm
          injection hv4 with e1 _ e3
          subst e1 e3
          have ji : (j : Int) < m := by omega
          have j0 : (0 : Int) ≤ j := by omega
          have j2 : (m : Int) ≤ c3 := by omega
          have j3 : (c3 : Int) ≤ 9223372036854775807 := by omega
          have ce2 : wr.cell? ⟨g4, j, none⟩ = some (.int .i64 s) := ce
          have HSJ := Lib.hid hsj
          have HNO : Hid (belowB s n = false → walksB x = false) := Lib.hid (fun hf => walks_not HT.out ((HLM.out s).1 (List.mem_of_getElem? HSJ.out)) (by rw [← HN.out]; exact hf))
          clear hsj hc1 hc2 ce
          by_cases s0 : s < 0
          · have hr : Hid (walksB x = false) := Lib.hid (HNO.out (by unfold belowB; rw [decide_eq_false (by omega)]; rfl))
            go_upto_region 11 with (fail)
            go_quiet (fail)
            go_wp2
            go_ret2
            exact ⟨⟨_, by rw [hr.out]; rfl⟩, below_then HB1.out (below_then HWW.out (by first | exact Below.refl _ _ | exact (Below.refl _ _).drew | exact Graph.below_drewN _ _))⟩
          by_cases s1 : (n : Int) ≤ s
          · have hr : Hid (walksB x = false) := Lib.hid (HNO.out (by unfold belowB; rw [decide_eq_false (show ¬ s < n by omega), Bool.and_false]))
            go_upto_region 11 with (fail)
            go_quiet (fail)
            go_wp2
            go_ret2
            exact ⟨⟨_, by rw [hr.out]; rfl⟩, below_then HB1.out (below_then HWW.out (by first | exact Below.refl _ _ | exact (Below.refl _ _).drew | exact Graph.below_drewN _ _))⟩
          have HOK : Hid (belowB s n = true) := Lib.hid (by unfold belowB; simp; omega)
          go_upto_region 11 with (fail)
          go_quiet (fail)
          go_wp2
          exact ⟨⟨j + 1, by omega, by go_num, Lib.hid (below_then HW.out (by first | exact Below.refl _ _ | exact (Below.refl _ _).drew | exact Graph.below_drewN _ _)), Lib.hid (fun q u hq hu => by
            by_cases e : q = j
            · subst e
              rw [HSJ.out] at hu
              injection hu with hu
              rw [← hu]; exact HOK.out
            · exact HJ.out q u (by omega) hu)⟩, by simp [intOf]; omega⟩
        · have hjm2 : j = m := by omega
          have ji : ¬ ((j : Int) < m) := by omega
          have HA2 : Hid (∀ q t' s, q < k + 1 → x.blocks[q]? = some t' → s ∈ namedN t'.fin → belowB s n = true) := Lib.hid (fun q t' s hq ht' hs => by
            by_cases e : q = k
            · subst e
              rw [HT.out] at ht'
              injection ht' with ht'
              subst ht'
              obtain ⟨i, hi, e⟩ := List.mem_iff_getElem.1 ((HLM.out s).2 hs)
              exact HJ.out i s (by have := HM.out; omega) (by rw [List.getElem?_eq_getElem hi, e])
            · exact HA.out q t' s (by omega) ht' hs)
          have HO4 := Lib.hid (own_below (own_below HO3.out HW.out) (Graph.below_alloc wr (.cells #[.slice p3 m c3] 22)))
          have HB4 : Hid (Below w1.heap.size w1 (wr.alloc (.cells #[.slice p3 m c3] 22))) := Lib.hid (below_then HWW.out (Graph.below_alloc wr _))
          have HNW := Lib.hid (news_row (w := wr) (v := .slice p3 m c3) (H := wr.heap.size) (t := 22) rfl)
          obtain ⟨i0, hi, hz0, hz1, hz2⟩ := info_parts info_ints28
          have HI := Lib.hid hi
          have HKN : Hid (k ≤ 20000) := Lib.hid (by have := HN2.out; omega)
          clear hi HJ
          go_wp2_with (
            at_builtin
            go_loud (refine wpList_append_lies _ (by rfl) _ _ 28 (by rfl) w1.heap.size 22 i0 _ 1 24 Tryd.underlying28 HI.out hz0 hz1 hz2 rfl (by omega) _ k _ (by rfl) HO4.out ⟨wr.heap.size, 0, none⟩ 1 1 [.slice p3 m c3] (by rfl) rfl HNW.out (by simp [Value.oneCell']) (by omega) (by unfold maxLen; have := HKN.out; omega) (by have := HKN.out; omega) HB4.out.size _ rfl ?_)
            intro g5 c5 w7 h5 h6 h7 h8
            have H5 := Lib.hid h5
            have HB7 : Hid (Below w1.heap.size w1 w7) := Lib.hid (Below.grown HB4.out h6 HB4.out.size (fun q hq => (HO4.out.lt q hq).1))
            clear h5 h6 h7 h8)
          exact ⟨⟨k + 1, _, by omega, by go_num, Lib.hid ⟨by rw [List.length_append, HO.out.1]; rfl, H5.out⟩, HB7, HA2⟩, by simp [intOf]; omega⟩
    · have hkn2 : k = n := by omega
      have ki : ¬ ((k : Int) < n) := by omega
      have hr : Hid (walksB x = true) := Lib.hid (by
        unfold walksB
        rw [decide_eq_true (by have := HN.out; have := HN2.out; omega), Bool.true_and, List.all_eq_true]
        intro t ht
        rw [List.all_eq_true]
        intro s hs
        obtain ⟨j, hj, e⟩ := List.mem_iff_getElem.1 ht
        rw [← HN.out]
        exact HA.out j t s (by have := HN.out; omega) (by rw [List.getElem?_eq_getElem hj, e]) hs)
      go_wp2
      go_ret2
      exact ⟨⟨_, by rw [hr.out]; rfl⟩, below_then HB1.out HB.out⟩
end Go.Proofs.YtcijaaiopfbffaaDoor.Live
