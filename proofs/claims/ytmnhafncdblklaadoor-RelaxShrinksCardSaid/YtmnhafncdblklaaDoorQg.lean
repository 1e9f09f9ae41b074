/- Where a label stands, by the answer: the law's at. No condition. -/
import Derived.Test.YtmnhafncdblklaaDoorQe
namespace Go.Proofs.YtmnhafncdblklaaDoor.Relax
open Go.RowKit Go.Proofs.YtmnhafncdblklaaDoor.Enc Go.Proofs.YtmnhafncdblklaaDoor.Graph

theorem stands_not {l : List PL} {lab : Int} : ∀ {t : Nat}, standsAt l lab t = none → ∀ k, k < t → ¬ ((lineAt l k).op = 0 ∧ (lineAt l k).label = lab)
  | 0, _, _, h => absurd h (Nat.not_lt_zero _)
  | t + 1, h, k, hk => by
    unfold standsAt at h
    split at h
    · cases h
    · rename_i h2
      rcases Nat.lt_or_ge k t with h3 | h3
      · exact stands_not h k h3
      · obtain rfl : k = t := by omega
        exact h2
theorem stands_is {l : List PL} {lab : Int} : ∀ {n t : Nat}, standsAt l lab n = some t → t < n ∧ (lineAt l t).op = 0 ∧ (lineAt l t).label = lab
  | 0, t, h => by cases h
  | n + 1, t, h => by
    unfold standsAt at h
    split at h
    · rename_i h2
      injection h with h
      subst h
      exact ⟨by omega, h2⟩
    · have := stands_is h
      exact ⟨by omega, this.2⟩
/-- The box of an answer. -/
structure Box1 (w wr : World) (v0 v1 v2 v3 : Value) : Prop where
  b : Below w.heap.size w wr
  sz : w.heap.size < wr.heap.size
  c0 : wr.cell? ⟨w.heap.size, 0, none⟩ = some v0
  c1 : wr.cell? ⟨w.heap.size, 1, none⟩ = some v1
  c2 : wr.cell? ⟨w.heap.size, 2, none⟩ = some v2
  c3 : wr.cell? ⟨w.heap.size, 3, none⟩ = some v3
theorem Box1.start (w : World) (t : TypeId) (v0 v1 v2 v3 : Value) : Box1 w (w.alloc (.cells #[v0, v1, v2, v3] t)) v0 v1 v2 v3 := by
  refine ⟨below_one w _, by simp, ?_, ?_, ?_, ?_⟩ <;> go_simp
theorem Box1.drew {w wr : World} {v0 v1 v2 v3 : Value} (h : Box1 w wr v0 v1 v2 v3) (n : Nat) : Box1 w (wr.drewN n) v0 v1 v2 v3 :=
  ⟨below_drew h.b n, h.sz, h.c0, h.c1, h.c2, h.c3⟩
set_option maxHeartbeats 8000000 in
set_option maxRecDepth 100000 in
theorem at_any (l : List PL) (a : Asm) (v vw vk vp : Value) (w : World) (h : LinesR w v l) (ha : AsmR w a vw vk vp) (lab : Int) (t : Nat) (q : Int)
    (hs : standsAt l lab l.length = some t) (h1 : standsAt l lab t = none) (hq : a.places[t]? = some q) :
    Calls Tryd.prog 37 #[v, asmV a vw vk vp, .int .i64 lab] w (Is (.int .i64 q) w) := by
  have ht := stands_is hs
  have hnot := stands_not h1
  clear hs h1
  rcases h with ⟨h0, ap, ac, rfl⟩ | ⟨g, o, cap, rfl, hn, hcap, hgl, hc⟩
  · omega
  · obtain ⟨pw, cw, rfl⟩ := ha.words.form
    obtain ⟨pk, ck, rfl⟩ := ha.kinds.form
    obtain ⟨pp, cp, rfl⟩ := ha.places.form
    have hpt := ints_pt ha.places (k := t) (by have := List.getElem?_eq_some_iff.1 hq; exact this.1)
    obtain ⟨b1, o1, q', rfl, hq', hl1, e1, hcp, _⟩ := hpt
    obtain rfl : q = q' := by rw [hq] at hq'; simpa using hq'
    have htp : t < a.places.length := (List.getElem?_eq_some_iff.1 hq).1
    obtain ⟨n, hN⟩ : ∃ n, n = l.length := ⟨_, rfl⟩
    obtain ⟨nw, hnw⟩ : ∃ n, n = a.words.length := ⟨_, rfl⟩
    obtain ⟨nk, hnk⟩ : ∃ n, n = a.kinds.length := ⟨_, rfl⟩
    obtain ⟨np, hnp⟩ : ∃ n, n = a.places.length := ⟨_, rfl⟩
    obtain ⟨rd, hrd⟩ : ∃ r, r = a.rounds := ⟨_, rfl⟩
    unfold asmV
    have m4 := sl_len ha.places
    rw [← hnp] at htp m4 hcp
    rw [← hN] at hn hcap hc ht
    rw [← hN, ← hnw, ← hnk, ← hnp, ← hrd]
    have HN := Lib.hid hN
    have HC := Lib.hid hc
    have HT := Lib.hid ht
    have HNOT := Lib.hid hnot
    obtain ⟨m1, m2⟩ := hcap
    have m3 : n ≤ 9223372036854775807 := by omega
    have j1 : (np : Int) ≤ 9223372036854775807 := by omega
    have j2 : (t : Int) < np := by omega
    have j3 : (0 : Int) ≤ t := by omega
    have HB0 := Lib.hid (Box1.start w 27 (.slice pw nw cw) (.slice pk nk ck) (.slice (some ⟨b1, o1, none⟩) np cp) (.int .i64 rd))
    have htn := ht.1
    clear hc hN hnot ht ha hq hq' hnw hnk hnp hrd
    go_enter Tryd.func37, Tryd.ntmps37
    go_wp2
    go_loopw [7] (fun i wr => ∃ k : Nat, k ≤ t ∧ i = .int .i64 k ∧ Hid (Box1 w wr (.slice pw nw cw) (.slice pk nk ck) (.slice (some ⟨b1, o1, none⟩) np cp) (.int .i64 rd))) (fun i _ => n - (intOf i).toNat)
    case atStart => exact ⟨0, Nat.zero_le _, rfl, HB0⟩
    case round =>
      obtain ⟨k, hk, rfl, HB1⟩ := hrel
      have hkn : k < n := by omega
      obtain ⟨x, hx⟩ := getN HN.out hkn
      obtain ⟨vl, hL⟩ := HC.out k hkn x hx
      obtain ⟨bb, sz, c0, c1, c2, c3⟩ := HB1.out
      obtain ⟨q0, q1, q2, q3, q4, q5, q6, q7⟩ := hL.below hgl bb
      have l0 : g < wr.heap.size := Nat.lt_of_lt_of_le hgl bb.size
      have l1 : b1 < wr.heap.size := Nat.lt_of_lt_of_le hl1 bb.size
      have f1 := (bb.cell (p := ⟨b1, o1 + t, none⟩) hl1).trans e1
      have BB := Lib.hid bb
      have HLA := Lib.hid (lineAt_of hx)
      have i0 : (0 : Int) ≤ k := by omega
      have i1 : (k : Int) < n := by omega
      have i2 : (n : Int) ≤ 9223372036854775807 := by omega
      clear bb hx hL q1 q2 q3 q4 q6 q7
      obtain ⟨xop, xa, xb, ximm, xn, xlabel, xlist⟩ := x
      simp only at q0 q5
      rcases Nat.lt_or_ge k t with hlt | hge
      · have hno := HNOT.out k hlt
        rw [HLA.out] at hno
        simp only at hno
        by_cases h0 : xop = 0
        · have g0 : (xop == 0) = true := by simpa using h0
          have g1 : (xlabel == lab) = false := by simp only [beq_eq_false_iff_ne]; exact fun h => hno ⟨h0, h⟩
          clear hno h0
          go_wp2
          exact ⟨⟨k + 1, by omega, by go_num, HB1⟩, by simp [intOf]; omega⟩
        · have g0 : (xop == 0) = false := by simpa using h0
          clear hno h0
          go_wp2
          exact ⟨⟨k + 1, by omega, by go_num, HB1⟩, by simp [intOf]; omega⟩
      · obtain rfl : k = t := by omega
        have hyes := HT.out.2
        rw [HLA.out] at hyes
        simp only at hyes
        have g0 : (xop == 0) = true := by simpa using hyes.1
        have g1 : (xlabel == lab) = true := by simpa using hyes.2
        clear hyes
        go_wp2
        go_ret
        exact ⟨rfl, BB.out⟩
end Go.Proofs.YtmnhafncdblklaaDoor.Relax
