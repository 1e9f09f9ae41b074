/- The small functions over temps: which an instruction uses, whether it sets one; sets of them. No condition but bounds. -/
import Derived.Test.YtcijaaiopfbffaaDoorProg
import Derived.Test.YtcijaaiopfbffaaDoorZc
import Derived.WalkKit
import Derived.WalkSpells
import Derived.WalkLawsBesides
import Derived.Lib.Hide
import Derived.KernelRfl
import Derived.BigFrame
import Derived.IntWalk
namespace Go.Proofs.YtcijaaiopfbffaaDoor.Live
open Go.RowKit Go.Proofs.YtcijaaiopfbffaaDoor.Graph

def usesAB (op : Int) : Bool := !(decide (op = 1) || decide (op = 25) || decide (op = 29) || decide (op = 30))
def usesBB (op : Int) : Bool := (decide (6 ≤ op) && decide (op ≤ 24)) || (op == 28)
set_option maxHeartbeats 2000000 in
theorem usesA_any (op : Int) (w : World) : Calls Tryd.prog 81 #[.int .i64 op] w fun e w' => e = .returned (.bool (usesAB op)) ∧ w' = w := by
  by_cases h1 : op = 1
  · subst h1
    go_enter Tryd.func81, Tryd.ntmps81
    go_wp2
    go_ret
    exact ⟨rfl, rfl⟩
  by_cases h2 : op = 25
  · subst h2
    go_enter Tryd.func81, Tryd.ntmps81
    go_wp2
    go_ret
    exact ⟨rfl, rfl⟩
  by_cases h3 : op = 29
  · subst h3
    go_enter Tryd.func81, Tryd.ntmps81
    go_wp2
    go_ret
    exact ⟨rfl, rfl⟩
  by_cases h4 : op = 30
  · subst h4
    go_enter Tryd.func81, Tryd.ntmps81
    go_wp2
    go_ret
    exact ⟨rfl, rfl⟩
  have hr : usesAB op = true := by unfold usesAB; simp [h1, h2, h3, h4]
  rw [hr]
  go_enter Tryd.func81, Tryd.ntmps81
  go_wp2
  go_ret
  exact ⟨rfl, rfl⟩
set_option maxHeartbeats 2000000 in
theorem two_any (op : Int) (w : World) : Calls Tryd.prog 88 #[.int .i64 op] w fun e w' => e = .returned (.bool (decide (6 ≤ op) && decide (op ≤ 24))) ∧ w' = w := by
  by_cases h1 : 6 ≤ op
  · go_enter Tryd.func88, Tryd.ntmps88
    go_wp2
    go_ret
    exact ⟨by simp [h1], rfl⟩
  · go_enter Tryd.func88, Tryd.ntmps88
    go_wp2
    go_ret
    exact ⟨by simp; omega, rfl⟩
set_option maxHeartbeats 2000000 in
theorem usesB_any (op : Int) (w : World) : Calls Tryd.prog 82 #[.int .i64 op] w fun e w' => e = .returned (.bool (usesBB op)) ∧ w' = w := by
  have HT := Lib.hid (fun w => two_any op w)
  unfold usesBB
  generalize (decide (6 ≤ op) && decide (op ≤ 24)) = q at *
  cases q
  all_goals
    go_enter Tryd.func82, Tryd.ntmps82
    go_wp2_with (go_at_call 88; refine (HT.out _).mono ?_; rintro e w1 ⟨rfl, rfl⟩)
    go_ret
    exact ⟨by simp, rfl⟩
set_option maxHeartbeats 2000000 in
theorem isTemp_any (t m : Int) (w : World) : Calls Tryd.prog 66 #[.int .i64 t, .int .i64 m] w fun e w' => e = .returned (.bool (belowB t m)) ∧ w' = w := by
  unfold belowB
  by_cases h1 : 0 ≤ t
  · go_enter Tryd.func66, Tryd.ntmps66
    go_wp2
    go_ret
    exact ⟨by simp [h1], rfl⟩
  · go_enter Tryd.func66, Tryd.ntmps66
    go_wp2
    go_ret
    exact ⟨by simp; omega, rfl⟩
set_option maxHeartbeats 2000000 in
/-- Whether an instruction sets its D. -/
theorem sets_any (x : PIns) (b o : Nat) (va vr : Value) (w : World) (h : InsR w b o x va vr) : Calls Tryd.prog 62 #[.pointer (some ⟨b, o, none⟩)] w fun e w' => e = .returned (.bool (setsT x)) ∧ w' = w := by
  have c0 := h.op
  have c1 := h.d
  unfold setsT
  obtain ⟨op, d, fa, fb, f, n, args, arrs⟩ := x
  simp only at c0 c1 ⊢
  clear h
  by_cases h1 : op = 26
  · subst h1
    go_enter Tryd.func62, Tryd.ntmps62
    go_wp2
    go_ret
    exact ⟨rfl, rfl⟩
  by_cases h2 : op = 28
  · subst h2
    go_enter Tryd.func62, Tryd.ntmps62
    go_wp2
    go_ret
    exact ⟨rfl, rfl⟩
  by_cases h3 : op = 31
  · subst h3
    go_enter Tryd.func62, Tryd.ntmps62
    go_wp2
    go_ret
    exact ⟨rfl, rfl⟩
  by_cases h4 : op = 32
  · subst h4
    go_enter Tryd.func62, Tryd.ntmps62
    go_wp2
    go_ret
    exact ⟨rfl, rfl⟩
  rw [if_neg (by omega)]
  by_cases h5 : op = 29
  · subst h5
    rw [if_pos rfl]
    go_enter Tryd.func62, Tryd.ntmps62
    go_wp2
    go_ret
    exact ⟨rfl, rfl⟩
  rw [if_neg h5]
  go_enter Tryd.func62, Tryd.ntmps62
  go_wp2
  go_ret
  exact ⟨rfl, rfl⟩
def endAB (e : PEnd) : Bool := if e.kind = 1 then false else if e.kind = 5 then e.a != -1 else true
set_option maxHeartbeats 2000000 in
theorem endA_any (x : PEnd) (b o : Nat) (vc vt : Value) (w : World) (h : EndR w b o x vc vt) : Calls Tryd.prog 84 #[.pointer (some ⟨b, o, none⟩)] w fun e w' => e = .returned (.bool (endAB x)) ∧ w' = w := by
  have c0 := h.kind
  have c1 := h.fa
  unfold endAB
  obtain ⟨kind, op, fa, fb, n, t, els, cases', targets⟩ := x
  simp only at c0 c1 ⊢
  clear h
  by_cases h1 : kind = 1
  · subst h1
    go_enter Tryd.func84, Tryd.ntmps84
    go_wp2
    go_ret
    exact ⟨rfl, rfl⟩
  rw [if_neg h1]
  by_cases h5 : kind = 5
  · subst h5
    rw [if_pos rfl]
    go_enter Tryd.func84, Tryd.ntmps84
    go_wp2
    go_ret
    exact ⟨rfl, rfl⟩
  rw [if_neg h5]
  go_enter Tryd.func84, Tryd.ntmps84
  go_wp2
  go_ret
  exact ⟨rfl, rfl⟩
/-- A bit of a word. -/
theorem shr_and (v i : Nat) : ((v / 2 ^ i) &&& 1 == 1) = v.testBit i := by
  rw [Nat.and_one_is_mod, Nat.testBit_eq_decide_div_mod_eq]
  cases h : decide (v / 2 ^ i % 2 = 1) <;> simp_all
end Go.Proofs.YtcijaaiopfbffaaDoor.Live
