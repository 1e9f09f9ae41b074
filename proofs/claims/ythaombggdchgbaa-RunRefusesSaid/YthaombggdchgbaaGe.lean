/- A function's parameters: the document's own and the program's paramsMayBe. -/
import Derived.Test.YthaombggdchgbaaGc
namespace Go.Proofs.Ythaombggdchgbaa.Graph
open Go.RowKit

theorem nodup_take {l : List Int} {k : Nat} {t : Int} (ht : l[k]? = some t) (h : (l.take k).Nodup) (hn : t ∉ l.take k) : (l.take (k + 1)).Nodup := by
  rw [List.take_add_one, ht, Option.toList_some, List.nodup_append]
  exact ⟨h, by simp, fun a ha b hb => by simp at hb; subst hb; intro e; subst e; exact hn ha⟩
theorem not_take {l : List Int} {k : Nat} {t u : Int} (hu : l[k]? = some u) (h : t ∉ l.take k) (hn : ¬ u = t) : t ∉ l.take (k + 1) := by
  rw [List.take_add_one, hu, Option.toList_some, List.mem_append]
  intro e
  rcases e with e | e
  · exact h e
  · simp at e; exact hn e.symm
theorem nodup_stop {l : List Int} {k i : Nat} {t u : Int} (hk : k < i) (hu : l[k]? = some u) (ht : l[i]? = some t) (he : u = t) : ¬ l.Nodup := by
  intro h
  subst he
  have hi : i < l.length := by
    rcases Nat.lt_or_ge i l.length with h | h
    · exact h
    · rw [List.getElem?_eq_none h] at ht; cases ht
  have := (List.getElem?_inj hi h).1 (ht.trans hu.symm)
  omega
/-- A graph in a box. -/
def Box4 (w : World) (b : Nat) (v0 v1 v2 v3 : Value) : Prop :=
  b < w.heap.size ∧ w.cell? ⟨b, 0, none⟩ = some v0 ∧ w.cell? ⟨b, 1, none⟩ = some v1 ∧ w.cell? ⟨b, 2, none⟩ = some v2 ∧ w.cell? ⟨b, 3, none⟩ = some v3
theorem Box4.below {w w' : World} {b : Nat} {v0 v1 v2 v3 : Value} (h : Box4 w b v0 v1 v2 v3) (hb : Below w.heap.size w w') : Box4 w' b v0 v1 v2 v3 :=
  ⟨Nat.lt_of_lt_of_le h.1 hb.size, (cell_below hb h.1 _).trans h.2.1, (cell_below hb h.1 _).trans h.2.2.1, (cell_below hb h.1 _).trans h.2.2.2.1, (cell_below hb h.1 _).trans h.2.2.2.2⟩
set_option maxHeartbeats 4000000 in
set_option maxRecDepth 100000 in
theorem own_any (x : PGr) (vp va vb : Value) (w : World) (h : GrL w vp va vb x) :
    Calls Try.prog 19 #[grV x vp va vb] w (Is (.bool (ownB x)) w) := by
  have HX := Lib.hid h
  obtain ⟨ap, ac, rfl⟩ := h.arrays.form
  obtain ⟨bp, bc, rfl⟩ := h.blocks.form
  have hp := h.params
  by_cases q0 : x.temps < 0
  · obtain ⟨pp, pc, rfl⟩ := h.params.form
    unfold grV
    obtain ⟨m, hm⟩ : ∃ m, m = x.temps := ⟨_, rfl⟩
    rw [← hm] at q0 ⊢
    have HM := Lib.hid hm
    clear h hm hp
    go_enter Try.func19, Try.ntmps19
    go_wp2
    go_ret
    exact ⟨by congr 2; unfold ownB; rw [← HM.out]; simp; omega, below_alloc w _⟩
  by_cases q1 : 8000 < x.temps
  · obtain ⟨pp, pc, rfl⟩ := h.params.form
    unfold grV
    obtain ⟨m, hm⟩ : ∃ m, m = x.temps := ⟨_, rfl⟩
    rw [← hm] at q0 q1 ⊢
    have HM := Lib.hid hm
    clear h hm hp
    go_enter Try.func19, Try.ntmps19
    go_wp2
    go_ret
    exact ⟨by congr 2; unfold ownB; rw [← HM.out]; simp; omega, below_alloc w _⟩
  have ht := fun (wr : World) (hb : Below w.heap.size w wr) => temps_any x.params x vp vp _ _ wr (h.params.below hb) (h.below hb)
  have hownE : ownB x = (decide (x.params.length ≤ 8) && decide x.params.Nodup && allBelowB x.params x.temps) := by
    unfold ownB; rw [decide_eq_true (show 0 ≤ x.temps by omega), decide_eq_true (show x.temps ≤ 8000 by omega)]; simp
  rw [hownE]
  unfold grV at ht ⊢
  obtain ⟨l, hl⟩ : ∃ l, l = x.params := ⟨_, rfl⟩
  obtain ⟨m, hm⟩ : ∃ m, m = x.temps := ⟨_, rfl⟩
  rw [← hl] at hp ht
  rw [← hm] at q0 q1 ht
  rw [← hm, ← hl]
  have q2 : 0 ≤ m := by omega
  have q3 : m ≤ 8000 := by omega
  clear hm q0 q1 hownE HX h hl
  rcases hp with ⟨h0, pp, pc, rfl⟩ | ⟨g, o, cap, rfl, hn, hcap, hgl, hc⟩
  · have : l = [] := List.length_eq_zero_iff.1 h0
    subst this
    have HT := Lib.hid ht
    clear ht h0
    go_enter Try.func19, Try.ntmps19
    go_wp2
    go_loopw [3] (fun i wr => i = .int .i64 0 ∧ Below w.heap.size w wr ∧ Box4 wr w.heap.size (.slice pp 0 pc) (.int .i64 m) (.slice ap x.arrays.length ac) (.slice bp x.blocks.length bc)) (fun _ _ => 0)
    case atStart => exact ⟨rfl, by go_simp; exact below_alloc w _, by go_simp, by go_simp, by go_simp, by go_simp, by go_simp⟩
    case round =>
      obtain ⟨rfl, hbw, z0, z1, z2, z3, z4⟩ := hrel
      have HBW := Lib.hid hbw
      have HT2 := Lib.hid (HT.out wr hbw)
      clear hbw
      go_wp2_with (go_at_call 39; refine HT2.out.mono ?_; rintro e w2 ⟨rfl, hb2⟩; have HB2 := Lib.hid hb2; clear hb2)
      go_ret
      exact ⟨rfl, HBW.out.trans (HB2.out.mono HBW.out.size)⟩
  · obtain ⟨n, hN⟩ : ∃ n, n = l.length := ⟨_, rfl⟩
    rw [← hN] at hn hcap hc ht
    rw [← hN]
    have HN := Lib.hid hN
    have HC := Lib.hid hc
    have HT := Lib.hid ht
    obtain ⟨m1, m2⟩ := hcap
    have j0 : (0 : Int) < n := by omega
    clear hN hc ht
    by_cases hbig : n ≤ 8
    · have j1 : (n : Int) ≤ 8 := by omega
      have hE : decide (n ≤ 8) = true := decide_eq_true hbig
      rw [hE, Bool.true_and]
      clear hE
      go_enter Try.func19, Try.ntmps19
      go_wp2
      go_loopw [3] (fun i wr => ∃ k : Nat, k ≤ n ∧ i = .int .i64 k ∧ Hid ((l.take k).Nodup) ∧ Below w.heap.size w wr ∧ Box4 wr w.heap.size (.slice (some ⟨g, o, none⟩) n cap) (.int .i64 m) (.slice ap x.arrays.length ac) (.slice bp x.blocks.length bc)) (fun i _ => n - (intOf i).toNat)
      case atStart => exact ⟨0, Nat.zero_le _, rfl, Lib.hid List.nodup_nil, by go_simp; exact below_alloc w _, by go_simp, by go_simp, by go_simp, by go_simp, by go_simp⟩
      case round =>
        obtain ⟨k, hk, rfl, HD, hbw, hbox⟩ := hrel
        have HBOX := Lib.hid hbox
        obtain ⟨z0, z1, z2, z3, z4⟩ := hbox
        have HBW := Lib.hid hbw
        by_cases hlt : k < n
        · obtain ⟨t, ht⟩ := getN HN.out hlt
          have c0 := (hbw.cell (p := ⟨g, o + k * 1, none⟩) hgl).trans (HC.out k hlt t ht)
          rw [Nat.mul_one] at c0
          have l0 : g < wr.heap.size := Nat.lt_of_lt_of_le hgl hbw.size
          have i0 : (0 : Int) ≤ k := by omega
          have i1 : (k : Int) < n := by omega
          have HTt := Lib.hid ht
          clear hbw ht
          go_wp2
          go_loopw [4] (fun i wq => ∃ j q : Nat, j ≤ k ∧ i = .int .i64 j ∧ Hid (t ∉ l.take j) ∧ wq = wr.drewN q) (fun i _ => k - (intOf i).toNat)
          case atStart => exact ⟨0, 0, Nat.zero_le _, rfl, Lib.hid (by simp), rfl⟩
          case round =>
            obtain ⟨j, q, hj, rfl, HI, rfl⟩ := hrel
            by_cases hlj : j < k
            · obtain ⟨u, hu⟩ := getN HN.out (show j < n by omega)
              have d0 := (HBW.out.cell (p := ⟨g, o + j * 1, none⟩) hgl).trans (HC.out j (by omega) u hu)
              rw [Nat.mul_one] at d0
              have HU := Lib.hid hu
              have i3 : (0 : Int) ≤ j := by omega
              have i4 : (j : Int) < k := by omega
              have i5 : (j : Int) < n := by omega
              clear hu
              obtain ⟨ws, hws⟩ : ∃ x, x = wr.drewN q := ⟨_, rfl⟩
              have e0 : ws.cell? ⟨g, o + k, none⟩ = some (.int .i64 t) := by rw [hws]; exact c0
              have e1 : ws.cell? ⟨g, o + j, none⟩ = some (.int .i64 u) := by rw [hws]; exact d0
              have e2 : ws.cell? ⟨w.heap.size, 0, none⟩ = some (.slice (some ⟨g, o, none⟩) n cap) := by rw [hws]; exact z1
              have e3 : w.heap.size < ws.heap.size := by rw [hws]; exact z0
              have e4 : g < ws.heap.size := by rw [hws]; exact l0
              rw [← hws]
              have HWS := Lib.hid hws
              clear hws d0
              by_cases hue : u = t
              · have f0 : (u == t) = true := by simp [hue]
                have HUE := Lib.hid hue
                clear hue
                go_wp2
                go_quiet (fail)
                go_wp2
                go_ret
                exact ⟨by rw [decide_eq_false (nodup_stop hlj HU.out HTt.out HUE.out), Bool.false_and]; rfl, by rw [HWS.out]; exact below_drew (below_drew HBW.out _) _⟩
              · have f0 : (u == t) = false := by simp [hue]
                have HUE := Lib.hid hue
                clear hue
                go_wp2
                go_quiet (fail)
                go_wp2
                exact ⟨⟨j + 1, q + nq, by omega, by go_num, Lib.hid (not_take HU.out HI.out HUE.out), by rw [HWS.out, World.drewN_drewN]⟩, by simp [intOf]; omega⟩
            · obtain rfl : j = k := by omega
              go_wp2
              exact ⟨⟨j + 1, by omega, by go_num, Lib.hid (nodup_take HTt.out HD.out HI.out), below_drew HBW.out q, HBOX.out⟩, by simp [intOf]; omega⟩
        · obtain rfl : k = n := by omega
          have HT2 := Lib.hid (HT.out wr hbw)
          clear hbw
          go_wp2_with (go_at_call 39; refine HT2.out.mono ?_; rintro e w2 ⟨rfl, hb2⟩; have HB2 := Lib.hid hb2; clear hb2)
          go_ret
          have hnd : decide l.Nodup = true := decide_eq_true (by have := HD.out; rw [HN.out, List.take_length] at this; exact this)
          exact ⟨by rw [hnd, Bool.true_and]; rfl, HBW.out.trans (HB2.out.mono HBW.out.size)⟩
    · have j1 : (8 : Int) < n := by omega
      go_enter Try.func19, Try.ntmps19
      go_wp2
      go_ret
      exact ⟨by congr 2, below_alloc w _⟩
end Go.Proofs.Ythaombggdchgbaa.Graph
