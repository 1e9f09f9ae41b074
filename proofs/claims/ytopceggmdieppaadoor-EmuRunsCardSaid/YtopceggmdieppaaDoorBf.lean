/- How the program's machine reckons: each of its nineteen functions gives a word, and the document's Arith the same. No condition but that what divides is not 0. -/
import Derived.Test.YtopceggmdieppaaDoorHA
import Derived.Test.YtopceggmdieppaaDoorGA
import Derived.Laws.Slices
namespace Go.Proofs.YtopceggmdieppaaDoor.Emu
open Go.RowKit Go.Proofs.YtopceggmdieppaaDoor.Enc Go.Proofs.YtopceggmdieppaaDoor.Graph

def Gives (f : FuncId) (o a b : Int) : Prop := ∃ v, isW v ∧ (∀ w, Calls Tryd.prog f #[.int .u32 a, .int .u32 b] w fun e w' => e = .returned (.int .u32 v) ∧ w' = w) ∧
  ∀ w, Calls Tryd.prog 129 #[.int .i64 o, .int .u32 a, .int .u32 b] w fun e w' => e = .returned (.tuple #[.int .u32 v, .bool true]) ∧ w' = w
theorem isW_wrap (a : Int) : isW (IntKind.u32.wrap a) := by rw [IntKind.wrap_u32]; exact isW_mod a
def bitOf : Bool → Int
  | true => 1
  | false => 0
theorem bool_prog (c : Bool) (w : World) : Calls Tryd.prog 100 #[.bool c] w fun e w' => e = .returned (.int .u32 (bitOf c)) ∧ w' = w := by
  cases c
  all_goals
    go_enter Tryd.func100, Tryd.ntmps100
    go_wp2
    go_ret
    exact ⟨rfl, rfl⟩
theorem isW_bool (c : Bool) : isW (bitOf c) := by unfold isW; cases c <;> simp [bitOf]
theorem isW_div {a b : Int} (ha : isW a) (hb : 0 ≤ b) : isW (a / b) := ⟨Int.ediv_nonneg ha.1 hb, Int.lt_of_le_of_lt (Int.ediv_le_self b ha.1) ha.2⟩
theorem isW_rem {a b : Int} (hb : isW b) (hz : b ≠ 0) : isW (a % b) := ⟨Int.emod_nonneg a hz, Int.lt_trans (Int.emod_lt_of_pos a (by have := hb.1; omega)) hb.2⟩
theorem two_pow (k : Nat) : (0 : Int) ≤ 2 ^ k := Int.le_of_lt (Int.pow_pos (by decide))
theorem i32_ne {b : Int} (hb : isW b) (hz : b ≠ 0) : RowKit.wrap32 b ≠ 0 := by
  obtain ⟨h1, h2⟩ := hb
  unfold RowKit.wrap32; omega
theorem divs_one {a b : Int} (h : (RowKit.wrap32 b == -1) = true) : -a % 4294967296 = RowKit.wrap32 ((RowKit.wrap32 a).tdiv (RowKit.wrap32 b)) % 4294967296 := by
  rw [eq_of_beq h, Int.tdiv_neg, Int.tdiv_one]
  unfold RowKit.wrap32; omega
theorem rems_one {a b : Int} (h : (RowKit.wrap32 b == -1) = true) : (0 : Int) = (RowKit.wrap32 a).tmod (RowKit.wrap32 b) % 4294967296 := by
  rw [eq_of_beq h, Int.tmod_neg, Int.tmod_one]; rfl
set_option maxHeartbeats 1000000 in
theorem ltS_prog (a b : Int) (ha : isW a) (hb : isW b) : ∀ w, Calls Tryd.prog 103 #[.int .u32 a, .int .u32 b] w fun e w' => e = .returned (.bool (decide (RowKit.wrap32 a < RowKit.wrap32 b))) ∧ w' = w := by
  obtain ⟨a0, a1⟩ := ha
  obtain ⟨b0, b1⟩ := hb
  intro w
  go_enter Tryd.func103, Tryd.ntmps103
  go_wp2
  go_ret
  exact ⟨rfl, rfl⟩
set_option maxHeartbeats 1000000 in
theorem holdsA13 (a b : Int) (ha : isW a) (hb : isW b) : ∀ w, Calls Tryd.prog 131 #[.int .i64 19, .int .u32 a, .int .u32 b] w fun e w' => e = .returned (.bool (a == b)) ∧ w' = w := by
  obtain ⟨a0, a1⟩ := ha
  obtain ⟨b0, b1⟩ := hb
  intro w
  go_enter Tryd.func131, Tryd.ntmps131
  go_wp2
  go_ret
  exact ⟨rfl, rfl⟩
set_option maxHeartbeats 1000000 in
theorem holdsA14 (a b : Int) (ha : isW a) (hb : isW b) : ∀ w, Calls Tryd.prog 131 #[.int .i64 20, .int .u32 a, .int .u32 b] w fun e w' => e = .returned (.bool (a != b)) ∧ w' = w := by
  obtain ⟨a0, a1⟩ := ha
  obtain ⟨b0, b1⟩ := hb
  intro w
  go_enter Tryd.func131, Tryd.ntmps131
  go_wp2
  go_ret
  exact ⟨rfl, rfl⟩
set_option maxHeartbeats 1000000 in
theorem holdsA15 (a b : Int) (ha : isW a) (hb : isW b) : ∀ w, Calls Tryd.prog 131 #[.int .i64 21, .int .u32 a, .int .u32 b] w fun e w' => e = .returned (.bool (decide (RowKit.wrap32 a < RowKit.wrap32 b))) ∧ w' = w := by
  obtain ⟨a0, a1⟩ := ha
  obtain ⟨b0, b1⟩ := hb
  intro w
  go_enter Tryd.func131, Tryd.ntmps131
  go_wp2
  go_ret
  exact ⟨rfl, rfl⟩
set_option maxHeartbeats 1000000 in
theorem holdsA16 (a b : Int) (ha : isW a) (hb : isW b) : ∀ w, Calls Tryd.prog 131 #[.int .i64 22, .int .u32 a, .int .u32 b] w fun e w' => e = .returned (.bool (decide (a < b))) ∧ w' = w := by
  obtain ⟨a0, a1⟩ := ha
  obtain ⟨b0, b1⟩ := hb
  intro w
  go_enter Tryd.func131, Tryd.ntmps131
  go_wp2
  go_ret
  exact ⟨rfl, rfl⟩
set_option maxHeartbeats 1000000 in
theorem holdsA17 (a b : Int) (ha : isW a) (hb : isW b) : ∀ w, Calls Tryd.prog 131 #[.int .i64 23, .int .u32 a, .int .u32 b] w fun e w' => e = .returned (.bool (!decide (RowKit.wrap32 b < RowKit.wrap32 a))) ∧ w' = w := by
  obtain ⟨a0, a1⟩ := ha
  obtain ⟨b0, b1⟩ := hb
  intro w
  go_enter Tryd.func131, Tryd.ntmps131
  go_wp2
  go_ret
  exact ⟨congrArg (fun z => Ending.returned (.bool z)) (by by_cases h : RowKit.wrap32 a ≤ RowKit.wrap32 b <;> simp [h] <;> omega), rfl⟩
set_option maxHeartbeats 1000000 in
theorem holdsA18 (a b : Int) (ha : isW a) (hb : isW b) : ∀ w, Calls Tryd.prog 131 #[.int .i64 24, .int .u32 a, .int .u32 b] w fun e w' => e = .returned (.bool (decide (a ≤ b))) ∧ w' = w := by
  obtain ⟨a0, a1⟩ := ha
  obtain ⟨b0, b1⟩ := hb
  intro w
  go_enter Tryd.func131, Tryd.ntmps131
  go_wp2
  go_ret
  exact ⟨rfl, rfl⟩
set_option maxHeartbeats 2000000 in
theorem gives0 (a b : Int) (ha : isW a) (hb : isW b) : Gives 86 6 a b := by
  obtain ⟨a0, a1⟩ := ha
  obtain ⟨b0, b1⟩ := hb
  apply Exists.intro
  apply And.intro
  rotate_left
  apply And.intro
  · intro w
    go_enter Tryd.func86, Tryd.ntmps86
    go_wp2_with fail
    go_ret
    exact ⟨rfl, rfl⟩
  · intro w
    go_enter Tryd.func129, Tryd.ntmps129
    go_wp2
    all_goals
      refine bodyPost_ret (results_tmp2 rfl _ _ _) rfl ⟨?_, rfl⟩
      first
        | rfl
        | exact congrArg (fun z => Ending.returned (.tuple #[.int .u32 z, .bool true])) (divs_one (by assumption))
        | exact congrArg (fun z => Ending.returned (.tuple #[.int .u32 z, .bool true])) (rems_one (by assumption))
  all_goals first | exact isW_bool _ | exact isW_div ⟨by assumption, by assumption⟩ (by first | assumption | exact two_pow _) | exact isW_rem ⟨by assumption, by assumption⟩ (by assumption) | exact isW_mod _ | exact isW_wrap _ | (unfold isW; omega) | skip
set_option maxHeartbeats 2000000 in
theorem gives1 (a b : Int) (ha : isW a) (hb : isW b) : Gives 87 7 a b := by
  obtain ⟨a0, a1⟩ := ha
  obtain ⟨b0, b1⟩ := hb
  apply Exists.intro
  apply And.intro
  rotate_left
  apply And.intro
  · intro w
    go_enter Tryd.func87, Tryd.ntmps87
    go_wp2_with fail
    go_ret
    exact ⟨rfl, rfl⟩
  · intro w
    go_enter Tryd.func129, Tryd.ntmps129
    go_wp2
    all_goals
      refine bodyPost_ret (results_tmp2 rfl _ _ _) rfl ⟨?_, rfl⟩
      first
        | rfl
        | exact congrArg (fun z => Ending.returned (.tuple #[.int .u32 z, .bool true])) (divs_one (by assumption))
        | exact congrArg (fun z => Ending.returned (.tuple #[.int .u32 z, .bool true])) (rems_one (by assumption))
  all_goals first | exact isW_bool _ | exact isW_div ⟨by assumption, by assumption⟩ (by first | assumption | exact two_pow _) | exact isW_rem ⟨by assumption, by assumption⟩ (by assumption) | exact isW_mod _ | exact isW_wrap _ | (unfold isW; omega) | skip
set_option maxHeartbeats 2000000 in
theorem gives2 (a b : Int) (ha : isW a) (hb : isW b) : Gives 88 8 a b := by
  obtain ⟨a0, a1⟩ := ha
  obtain ⟨b0, b1⟩ := hb
  apply Exists.intro
  apply And.intro
  rotate_left
  apply And.intro
  · intro w
    go_enter Tryd.func88, Tryd.ntmps88
    go_wp2_with fail
    go_ret
    exact ⟨rfl, rfl⟩
  · intro w
    go_enter Tryd.func129, Tryd.ntmps129
    go_wp2
    all_goals
      refine bodyPost_ret (results_tmp2 rfl _ _ _) rfl ⟨?_, rfl⟩
      first
        | rfl
        | exact congrArg (fun z => Ending.returned (.tuple #[.int .u32 z, .bool true])) (divs_one (by assumption))
        | exact congrArg (fun z => Ending.returned (.tuple #[.int .u32 z, .bool true])) (rems_one (by assumption))
  all_goals first | exact isW_bool _ | exact isW_div ⟨by assumption, by assumption⟩ (by first | assumption | exact two_pow _) | exact isW_rem ⟨by assumption, by assumption⟩ (by assumption) | exact isW_mod _ | exact isW_wrap _ | (unfold isW; omega) | skip
set_option maxHeartbeats 2000000 in
theorem gives3 (a b : Int) (ha : isW a) (hb : isW b) (hz : b ≠ 0) : Gives 89 9 a b := by
  obtain ⟨a0, a1⟩ := ha
  obtain ⟨b0, b1⟩ := hb
  apply Exists.intro
  apply And.intro
  rotate_left
  apply And.intro
  · intro w
    have hne := i32_ne (b := b) ⟨b0, b1⟩ hz
    go_enter Tryd.func89, Tryd.ntmps89
    go_wp2_with fail
    go_ret
    exact ⟨rfl, rfl⟩
  · intro w
    have hne := i32_ne (b := b) ⟨b0, b1⟩ hz
    have hz2 : (b == 0) = false := beq_eq_false_iff_ne.2 hz
    go_enter Tryd.func129, Tryd.ntmps129
    go_wp2
    all_goals
      refine bodyPost_ret (results_tmp2 rfl _ _ _) rfl ⟨?_, rfl⟩
      first
        | rfl
        | exact congrArg (fun z => Ending.returned (.tuple #[.int .u32 z, .bool true])) (divs_one (by assumption))
        | exact congrArg (fun z => Ending.returned (.tuple #[.int .u32 z, .bool true])) (rems_one (by assumption))
  all_goals first | exact isW_bool _ | exact isW_div ⟨by assumption, by assumption⟩ (by first | assumption | exact two_pow _) | exact isW_rem ⟨by assumption, by assumption⟩ (by assumption) | exact isW_mod _ | exact isW_wrap _ | (unfold isW; omega) | skip
set_option maxHeartbeats 2000000 in
theorem gives4 (a b : Int) (ha : isW a) (hb : isW b) (hz : b ≠ 0) : Gives 90 10 a b := by
  obtain ⟨a0, a1⟩ := ha
  obtain ⟨b0, b1⟩ := hb
  apply Exists.intro
  apply And.intro
  rotate_left
  apply And.intro
  · intro w
    go_enter Tryd.func90, Tryd.ntmps90
    go_wp2_with fail
    go_ret
    exact ⟨rfl, rfl⟩
  · intro w
    have hne := i32_ne (b := b) ⟨b0, b1⟩ hz
    have hz2 : (b == 0) = false := beq_eq_false_iff_ne.2 hz
    go_enter Tryd.func129, Tryd.ntmps129
    go_wp2
    all_goals
      refine bodyPost_ret (results_tmp2 rfl _ _ _) rfl ⟨?_, rfl⟩
      first
        | rfl
        | exact congrArg (fun z => Ending.returned (.tuple #[.int .u32 z, .bool true])) (divs_one (by assumption))
        | exact congrArg (fun z => Ending.returned (.tuple #[.int .u32 z, .bool true])) (rems_one (by assumption))
  all_goals first | exact isW_bool _ | exact isW_div ⟨by assumption, by assumption⟩ (by first | assumption | exact two_pow _) | exact isW_rem ⟨by assumption, by assumption⟩ (by assumption) | exact isW_mod _ | exact isW_wrap _ | (unfold isW; omega) | skip
set_option maxHeartbeats 2000000 in
theorem gives5 (a b : Int) (ha : isW a) (hb : isW b) (hz : b ≠ 0) : Gives 91 11 a b := by
  obtain ⟨a0, a1⟩ := ha
  obtain ⟨b0, b1⟩ := hb
  apply Exists.intro
  apply And.intro
  rotate_left
  apply And.intro
  · intro w
    have hne := i32_ne (b := b) ⟨b0, b1⟩ hz
    go_enter Tryd.func91, Tryd.ntmps91
    go_wp2_with fail
    go_ret
    exact ⟨rfl, rfl⟩
  · intro w
    have hne := i32_ne (b := b) ⟨b0, b1⟩ hz
    have hz2 : (b == 0) = false := beq_eq_false_iff_ne.2 hz
    go_enter Tryd.func129, Tryd.ntmps129
    go_wp2
    all_goals
      refine bodyPost_ret (results_tmp2 rfl _ _ _) rfl ⟨?_, rfl⟩
      first
        | rfl
        | exact congrArg (fun z => Ending.returned (.tuple #[.int .u32 z, .bool true])) (divs_one (by assumption))
        | exact congrArg (fun z => Ending.returned (.tuple #[.int .u32 z, .bool true])) (rems_one (by assumption))
  all_goals first | exact isW_bool _ | exact isW_div ⟨by assumption, by assumption⟩ (by first | assumption | exact two_pow _) | exact isW_rem ⟨by assumption, by assumption⟩ (by assumption) | exact isW_mod _ | exact isW_wrap _ | (unfold isW; omega) | skip
set_option maxHeartbeats 2000000 in
theorem gives6 (a b : Int) (ha : isW a) (hb : isW b) (hz : b ≠ 0) : Gives 92 12 a b := by
  obtain ⟨a0, a1⟩ := ha
  obtain ⟨b0, b1⟩ := hb
  apply Exists.intro
  apply And.intro
  rotate_left
  apply And.intro
  · intro w
    go_enter Tryd.func92, Tryd.ntmps92
    go_wp2_with fail
    go_ret
    exact ⟨rfl, rfl⟩
  · intro w
    have hne := i32_ne (b := b) ⟨b0, b1⟩ hz
    have hz2 : (b == 0) = false := beq_eq_false_iff_ne.2 hz
    go_enter Tryd.func129, Tryd.ntmps129
    go_wp2
    all_goals
      refine bodyPost_ret (results_tmp2 rfl _ _ _) rfl ⟨?_, rfl⟩
      first
        | rfl
        | exact congrArg (fun z => Ending.returned (.tuple #[.int .u32 z, .bool true])) (divs_one (by assumption))
        | exact congrArg (fun z => Ending.returned (.tuple #[.int .u32 z, .bool true])) (rems_one (by assumption))
  all_goals first | exact isW_bool _ | exact isW_div ⟨by assumption, by assumption⟩ (by first | assumption | exact two_pow _) | exact isW_rem ⟨by assumption, by assumption⟩ (by assumption) | exact isW_mod _ | exact isW_wrap _ | (unfold isW; omega) | skip
set_option maxHeartbeats 2000000 in
theorem gives7 (a b : Int) (ha : isW a) (hb : isW b) : Gives 93 13 a b := by
  obtain ⟨a0, a1⟩ := ha
  obtain ⟨b0, b1⟩ := hb
  apply Exists.intro
  apply And.intro
  rotate_left
  apply And.intro
  · intro w
    go_enter Tryd.func93, Tryd.ntmps93
    go_wp2_with fail
    go_ret
    exact ⟨rfl, rfl⟩
  · intro w
    go_enter Tryd.func129, Tryd.ntmps129
    go_wp2
    all_goals
      refine bodyPost_ret (results_tmp2 rfl _ _ _) rfl ⟨?_, rfl⟩
      first
        | rfl
        | exact congrArg (fun z => Ending.returned (.tuple #[.int .u32 z, .bool true])) (divs_one (by assumption))
        | exact congrArg (fun z => Ending.returned (.tuple #[.int .u32 z, .bool true])) (rems_one (by assumption))
  all_goals first | exact isW_bool _ | exact isW_div ⟨by assumption, by assumption⟩ (by first | assumption | exact two_pow _) | exact isW_rem ⟨by assumption, by assumption⟩ (by assumption) | exact isW_mod _ | exact isW_wrap _ | (unfold isW; omega) | skip
set_option maxHeartbeats 2000000 in
theorem gives8 (a b : Int) (ha : isW a) (hb : isW b) : Gives 94 14 a b := by
  obtain ⟨a0, a1⟩ := ha
  obtain ⟨b0, b1⟩ := hb
  apply Exists.intro
  apply And.intro
  rotate_left
  apply And.intro
  · intro w
    go_enter Tryd.func94, Tryd.ntmps94
    go_wp2_with fail
    go_ret
    exact ⟨rfl, rfl⟩
  · intro w
    go_enter Tryd.func129, Tryd.ntmps129
    go_wp2
    all_goals
      refine bodyPost_ret (results_tmp2 rfl _ _ _) rfl ⟨?_, rfl⟩
      first
        | rfl
        | exact congrArg (fun z => Ending.returned (.tuple #[.int .u32 z, .bool true])) (divs_one (by assumption))
        | exact congrArg (fun z => Ending.returned (.tuple #[.int .u32 z, .bool true])) (rems_one (by assumption))
  all_goals first | exact isW_bool _ | exact isW_div ⟨by assumption, by assumption⟩ (by first | assumption | exact two_pow _) | exact isW_rem ⟨by assumption, by assumption⟩ (by assumption) | exact isW_mod _ | exact isW_wrap _ | (unfold isW; omega) | skip
set_option maxHeartbeats 2000000 in
theorem gives9 (a b : Int) (ha : isW a) (hb : isW b) : Gives 95 15 a b := by
  obtain ⟨a0, a1⟩ := ha
  obtain ⟨b0, b1⟩ := hb
  apply Exists.intro
  apply And.intro
  rotate_left
  apply And.intro
  · intro w
    go_enter Tryd.func95, Tryd.ntmps95
    go_wp2_with fail
    go_ret
    exact ⟨rfl, rfl⟩
  · intro w
    go_enter Tryd.func129, Tryd.ntmps129
    go_wp2
    all_goals
      refine bodyPost_ret (results_tmp2 rfl _ _ _) rfl ⟨?_, rfl⟩
      first
        | rfl
        | exact congrArg (fun z => Ending.returned (.tuple #[.int .u32 z, .bool true])) (divs_one (by assumption))
        | exact congrArg (fun z => Ending.returned (.tuple #[.int .u32 z, .bool true])) (rems_one (by assumption))
  all_goals first | exact isW_bool _ | exact isW_div ⟨by assumption, by assumption⟩ (by first | assumption | exact two_pow _) | exact isW_rem ⟨by assumption, by assumption⟩ (by assumption) | exact isW_mod _ | exact isW_wrap _ | (unfold isW; omega) | skip
set_option maxHeartbeats 2000000 in
theorem gives10 (a b : Int) (ha : isW a) (hb : isW b) : Gives 96 16 a b := by
  obtain ⟨a0, a1⟩ := ha
  obtain ⟨b0, b1⟩ := hb
  apply Exists.intro
  apply And.intro
  rotate_left
  apply And.intro
  · intro w
    go_enter Tryd.func96, Tryd.ntmps96
    go_wp2_with fail
    go_ret
    exact ⟨rfl, rfl⟩
  · intro w
    go_enter Tryd.func129, Tryd.ntmps129
    go_wp2
    all_goals
      refine bodyPost_ret (results_tmp2 rfl _ _ _) rfl ⟨?_, rfl⟩
      first
        | rfl
        | exact congrArg (fun z => Ending.returned (.tuple #[.int .u32 z, .bool true])) (divs_one (by assumption))
        | exact congrArg (fun z => Ending.returned (.tuple #[.int .u32 z, .bool true])) (rems_one (by assumption))
  all_goals first | exact isW_bool _ | exact isW_div ⟨by assumption, by assumption⟩ (by first | assumption | exact two_pow _) | exact isW_rem ⟨by assumption, by assumption⟩ (by assumption) | exact isW_mod _ | exact isW_wrap _ | (unfold isW; omega) | skip
set_option maxHeartbeats 2000000 in
theorem gives11 (a b : Int) (ha : isW a) (hb : isW b) : Gives 97 17 a b := by
  obtain ⟨a0, a1⟩ := ha
  obtain ⟨b0, b1⟩ := hb
  apply Exists.intro
  apply And.intro
  rotate_left
  apply And.intro
  · intro w
    go_enter Tryd.func97, Tryd.ntmps97
    go_wp2_with fail
    go_ret
    exact ⟨rfl, rfl⟩
  · intro w
    go_enter Tryd.func129, Tryd.ntmps129
    go_wp2
    all_goals
      refine bodyPost_ret (results_tmp2 rfl _ _ _) rfl ⟨?_, rfl⟩
      first
        | rfl
        | exact congrArg (fun z => Ending.returned (.tuple #[.int .u32 z, .bool true])) (divs_one (by assumption))
        | exact congrArg (fun z => Ending.returned (.tuple #[.int .u32 z, .bool true])) (rems_one (by assumption))
  all_goals first | exact isW_bool _ | exact isW_div ⟨by assumption, by assumption⟩ (by first | assumption | exact two_pow _) | exact isW_rem ⟨by assumption, by assumption⟩ (by assumption) | exact isW_mod _ | exact isW_wrap _ | (unfold isW; omega) | skip
set_option maxHeartbeats 2000000 in
theorem gives12 (a b : Int) (ha : isW a) (hb : isW b) : Gives 98 18 a b := by
  obtain ⟨a0, a1⟩ := ha
  obtain ⟨b0, b1⟩ := hb
  apply Exists.intro
  apply And.intro
  rotate_left
  apply And.intro
  · intro w
    go_enter Tryd.func98, Tryd.ntmps98
    go_wp2_with fail
    go_ret
    exact ⟨rfl, rfl⟩
  · intro w
    go_enter Tryd.func129, Tryd.ntmps129
    go_wp2
    all_goals
      refine bodyPost_ret (results_tmp2 rfl _ _ _) rfl ⟨?_, rfl⟩
      first
        | rfl
        | exact congrArg (fun z => Ending.returned (.tuple #[.int .u32 z, .bool true])) (divs_one (by assumption))
        | exact congrArg (fun z => Ending.returned (.tuple #[.int .u32 z, .bool true])) (rems_one (by assumption))
  all_goals first | exact isW_bool _ | exact isW_div ⟨by assumption, by assumption⟩ (by first | assumption | exact two_pow _) | exact isW_rem ⟨by assumption, by assumption⟩ (by assumption) | exact isW_mod _ | exact isW_wrap _ | (unfold isW; omega) | skip
set_option maxHeartbeats 2000000 in
theorem gives13 (a b : Int) (ha : isW a) (hb : isW b) : Gives 99 19 a b := by
  have hA := holdsA13 a b ha hb
  obtain ⟨a0, a1⟩ := ha
  obtain ⟨b0, b1⟩ := hb
  apply Exists.intro
  apply And.intro
  rotate_left
  apply And.intro
  · intro w
    go_enter Tryd.func99, Tryd.ntmps99
    go_wp2_with (first | (go_at_call 100; refine (bool_prog _ _).mono ?_; rintro e w1 ⟨rfl, rfl⟩))
    go_ret
    exact ⟨rfl, rfl⟩
  · intro w
    generalize (a == b) = c at hA ⊢
    cases c
    all_goals
      go_enter Tryd.func129, Tryd.ntmps129
      go_wp2_with (go_at_call 131; refine (hA _).mono ?_; rintro e w1 ⟨rfl, rfl⟩)
      exact bodyPost_ret (results_tmp2 rfl _ _ _) rfl ⟨rfl, rfl⟩
  all_goals first | exact isW_bool _ | exact isW_div ⟨by assumption, by assumption⟩ (by first | assumption | exact two_pow _) | exact isW_rem ⟨by assumption, by assumption⟩ (by assumption) | exact isW_mod _ | exact isW_wrap _ | (unfold isW; omega) | skip
set_option maxHeartbeats 2000000 in
theorem gives14 (a b : Int) (ha : isW a) (hb : isW b) : Gives 101 20 a b := by
  have hA := holdsA14 a b ha hb
  obtain ⟨a0, a1⟩ := ha
  obtain ⟨b0, b1⟩ := hb
  apply Exists.intro
  apply And.intro
  rotate_left
  apply And.intro
  · intro w
    go_enter Tryd.func101, Tryd.ntmps101
    go_wp2_with (first | (go_at_call 100; refine (bool_prog _ _).mono ?_; rintro e w1 ⟨rfl, rfl⟩))
    go_ret
    exact ⟨rfl, rfl⟩
  · intro w
    generalize (a != b) = c at hA ⊢
    cases c
    all_goals
      go_enter Tryd.func129, Tryd.ntmps129
      go_wp2_with (go_at_call 131; refine (hA _).mono ?_; rintro e w1 ⟨rfl, rfl⟩)
      exact bodyPost_ret (results_tmp2 rfl _ _ _) rfl ⟨rfl, rfl⟩
  all_goals first | exact isW_bool _ | exact isW_div ⟨by assumption, by assumption⟩ (by first | assumption | exact two_pow _) | exact isW_rem ⟨by assumption, by assumption⟩ (by assumption) | exact isW_mod _ | exact isW_wrap _ | (unfold isW; omega) | skip
set_option maxHeartbeats 2000000 in
theorem gives15 (a b : Int) (ha : isW a) (hb : isW b) : Gives 102 21 a b := by
  have hc := ltS_prog a b ha hb
  have hA := holdsA15 a b ha hb
  obtain ⟨a0, a1⟩ := ha
  obtain ⟨b0, b1⟩ := hb
  apply Exists.intro
  apply And.intro
  rotate_left
  apply And.intro
  · intro w
    go_enter Tryd.func102, Tryd.ntmps102
    go_wp2_with (first
    | (go_at_call 100; refine (bool_prog _ _).mono ?_; rintro e w1 ⟨rfl, rfl⟩)
    | (go_at_call 103; refine (hc _).mono ?_; rintro e w1 ⟨rfl, rfl⟩))
    go_ret
    exact ⟨rfl, rfl⟩
  · intro w
    generalize (decide (RowKit.wrap32 a < RowKit.wrap32 b)) = c at hA ⊢
    cases c
    all_goals
      go_enter Tryd.func129, Tryd.ntmps129
      go_wp2_with (go_at_call 131; refine (hA _).mono ?_; rintro e w1 ⟨rfl, rfl⟩)
      exact bodyPost_ret (results_tmp2 rfl _ _ _) rfl ⟨rfl, rfl⟩
  all_goals first | exact isW_bool _ | exact isW_div ⟨by assumption, by assumption⟩ (by first | assumption | exact two_pow _) | exact isW_rem ⟨by assumption, by assumption⟩ (by assumption) | exact isW_mod _ | exact isW_wrap _ | (unfold isW; omega) | skip
set_option maxHeartbeats 2000000 in
theorem gives16 (a b : Int) (ha : isW a) (hb : isW b) : Gives 104 22 a b := by
  have hA := holdsA16 a b ha hb
  obtain ⟨a0, a1⟩ := ha
  obtain ⟨b0, b1⟩ := hb
  apply Exists.intro
  apply And.intro
  rotate_left
  apply And.intro
  · intro w
    go_enter Tryd.func104, Tryd.ntmps104
    go_wp2_with (first | (go_at_call 100; refine (bool_prog _ _).mono ?_; rintro e w1 ⟨rfl, rfl⟩))
    go_ret
    exact ⟨rfl, rfl⟩
  · intro w
    generalize (decide (a < b)) = c at hA ⊢
    cases c
    all_goals
      go_enter Tryd.func129, Tryd.ntmps129
      go_wp2_with (go_at_call 131; refine (hA _).mono ?_; rintro e w1 ⟨rfl, rfl⟩)
      exact bodyPost_ret (results_tmp2 rfl _ _ _) rfl ⟨rfl, rfl⟩
  all_goals first | exact isW_bool _ | exact isW_div ⟨by assumption, by assumption⟩ (by first | assumption | exact two_pow _) | exact isW_rem ⟨by assumption, by assumption⟩ (by assumption) | exact isW_mod _ | exact isW_wrap _ | (unfold isW; omega) | skip
set_option maxHeartbeats 2000000 in
theorem gives17 (a b : Int) (ha : isW a) (hb : isW b) : Gives 105 23 a b := by
  have hc := ltS_prog b a hb ha
  have hA := holdsA17 a b ha hb
  obtain ⟨a0, a1⟩ := ha
  obtain ⟨b0, b1⟩ := hb
  apply Exists.intro
  apply And.intro
  rotate_left
  apply And.intro
  · intro w
    go_enter Tryd.func105, Tryd.ntmps105
    go_wp2_with (first
    | (go_at_call 100; refine (bool_prog _ _).mono ?_; rintro e w1 ⟨rfl, rfl⟩)
    | (go_at_call 103; refine (hc _).mono ?_; rintro e w1 ⟨rfl, rfl⟩))
    go_ret
    exact ⟨rfl, rfl⟩
  · intro w
    generalize (!decide (RowKit.wrap32 b < RowKit.wrap32 a)) = c at hA ⊢
    cases c
    all_goals
      go_enter Tryd.func129, Tryd.ntmps129
      go_wp2_with (go_at_call 131; refine (hA _).mono ?_; rintro e w1 ⟨rfl, rfl⟩)
      exact bodyPost_ret (results_tmp2 rfl _ _ _) rfl ⟨rfl, rfl⟩
  all_goals first | exact isW_bool _ | exact isW_div ⟨by assumption, by assumption⟩ (by first | assumption | exact two_pow _) | exact isW_rem ⟨by assumption, by assumption⟩ (by assumption) | exact isW_mod _ | exact isW_wrap _ | (unfold isW; omega) | skip
set_option maxHeartbeats 2000000 in
theorem gives18 (a b : Int) (ha : isW a) (hb : isW b) : Gives 106 24 a b := by
  have hA := holdsA18 a b ha hb
  obtain ⟨a0, a1⟩ := ha
  obtain ⟨b0, b1⟩ := hb
  apply Exists.intro
  apply And.intro
  rotate_left
  apply And.intro
  · intro w
    go_enter Tryd.func106, Tryd.ntmps106
    go_wp2_with (first | (go_at_call 100; refine (bool_prog _ _).mono ?_; rintro e w1 ⟨rfl, rfl⟩))
    go_ret
    exact ⟨rfl, rfl⟩
  · intro w
    generalize (decide (a ≤ b)) = c at hA ⊢
    cases c
    all_goals
      go_enter Tryd.func129, Tryd.ntmps129
      go_wp2_with (go_at_call 131; refine (hA _).mono ?_; rintro e w1 ⟨rfl, rfl⟩)
      exact bodyPost_ret (results_tmp2 rfl _ _ _) rfl ⟨rfl, rfl⟩
  all_goals first | exact isW_bool _ | exact isW_div ⟨by assumption, by assumption⟩ (by first | assumption | exact two_pow _) | exact isW_rem ⟨by assumption, by assumption⟩ (by assumption) | exact isW_mod _ | exact isW_wrap _ | (unfold isW; omega) | skip
end Go.Proofs.YtopceggmdieppaaDoor.Emu
