/- How many branches a list has: the law's function. No condition. -/
import Derived.Test.YtmnhafncdblklaaDoorGQ
namespace Go.Proofs.YtmnhafncdblklaaDoor.Relax
open Go.RowKit Go.Proofs.YtmnhafncdblklaaDoor.Enc Go.Proofs.YtmnhafncdblklaaDoor.Graph

set_option maxHeartbeats 4000000 in
set_option maxRecDepth 100000 in
theorem branches_any (l : List PL) (v : Value) (w : World) (h : LinesR w v l) :
    Calls Tryd.prog 17 #[v] w (Is (.int .i64 (branchesP l)) w) := by
  rcases h with ⟨h0, ap, ac, rfl⟩ | ⟨g, o, cap, rfl, hn, hcap, hgl, hc⟩
  · have : l = [] := List.length_eq_zero_iff.1 h0
    subst this
    go_enter Tryd.func17, Tryd.ntmps17
    go_wp2
    go_loopw [3, 4] (fun c i wr => i = .int .i64 0 ∧ c = .int .i64 0 ∧ Below w.heap.size w wr) (fun _ _ _ => 0)
    case atStart => exact ⟨rfl, rfl, Below.refl _ _⟩
    case round =>
      obtain ⟨rfl, rfl, hbw⟩ := hrel
      go_wp2
      go_ret
      exact ⟨rfl, hbw⟩
  · obtain ⟨n, hN⟩ : ∃ n, n = l.length := ⟨_, rfl⟩
    rw [← hN] at hn hcap hc
    rw [← hN]
    have HN := Lib.hid hN
    have HC := Lib.hid hc
    obtain ⟨m1, m2⟩ := hcap
    have m3 : n ≤ 9223372036854775807 := by omega
    clear hc hN
    go_enter Tryd.func17, Tryd.ntmps17
    go_wp2
    go_loopw [3, 4] (fun c i wr => ∃ k : Nat, k ≤ n ∧ i = .int .i64 k ∧ c = .int .i64 (brN l k) ∧ Below w.heap.size w wr) (fun _ i _ => n - (intOf i).toNat)
    case atStart => exact ⟨0, Nat.zero_le _, rfl, rfl, Below.refl _ _⟩
    case round =>
      obtain ⟨k, hk, rfl, rfl, hbw⟩ := hrel
      by_cases hlt : k < n
      · obtain ⟨x, hx⟩ := getN HN.out hlt
        obtain ⟨vl, hL⟩ := HC.out k hlt x hx
        have hL2 := hL.below hgl hbw
        obtain ⟨q0, q1, q2, q3, q4, q5, q6, q7⟩ := hL2
        obtain ⟨lp, lc, rfl⟩ := q7.form
        have l0 : g < wr.heap.size := Nat.lt_of_lt_of_le hgl hbw.size
        have i0 : (0 : Int) ≤ k := by omega
        have i1 : (k : Int) < n := by omega
        have i2 : (n : Int) ≤ 9223372036854775807 := by omega
        have i3 := brN_le l k
        have i4 : (brN l k : Int) ≤ k := by omega
        have HX := Lib.hid hx
        have HBW := Lib.hid hbw
        obtain ⟨c0, hc0⟩ : ∃ c0, c0 = brN l k := ⟨_, rfl⟩
        rw [← hc0] at i3 i4 ⊢
        have i5 : (0 : Int) ≤ c0 := by omega
        have HC0 := Lib.hid hc0
        obtain ⟨bb, hbb⟩ : ∃ bb, bb = isBr x := ⟨_, rfl⟩
        have HB := Lib.hid hbb
        have hcall := fun w => branch_any x lp x.list.length lc w
        rw [← hbb] at hcall
        have HC2 := Lib.hid hcall
        clear hbb hcall hx hbw hL q7 hc0
        obtain ⟨xop, xa, xb, ximm, xn, xlabel, xlist⟩ := x
        unfold lineV at HC2
        simp only at q0 q1 q2 q3 q4 q5 q6
        cases bb
        all_goals
          go_wp2_with (go_at_call 20; refine (HC2.out _).mono ?_; rintro e w2 ⟨rfl, hb2⟩; have H2 := Lib.hid hb2; clear hb2)
          go_roundw
          case rel => exact ⟨k + 1, by omega, by go_num, by (have e1 : brN l (k + 1) = brN l k + (if isBr (lineAt l k) then 1 else 0) := rfl); rw [e1, lineAt_of HX.out, ← HB.out, ← HC0.out]; (first | rfl | go_num), bt HBW.out H2.out⟩
          case measure => simp [intOf]; omega
      · obtain rfl : k = n := by omega
        have HBW := Lib.hid hbw
        clear hbw
        go_wp2
        go_ret
        exact ⟨by rw [← brN_all, ← HN.out]; rfl, HBW.out⟩
end Go.Proofs.YtmnhafncdblklaaDoor.Relax
