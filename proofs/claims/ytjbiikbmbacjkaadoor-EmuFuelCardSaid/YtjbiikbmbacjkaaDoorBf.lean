/- How the program's machine reckons: each of its nineteen functions gives a word. No condition but that what divides is not 0. -/
import Derived.Test.YtjbiikbmbacjkaaDoorBe
import Derived.Test.YtjbiikbmbacjkaaDoorGA
import Derived.Laws.Slices
namespace Go.Proofs.YtjbiikbmbacjkaaDoor.Emu
open Go.RowKit Go.Proofs.YtjbiikbmbacjkaaDoor.Enc Go.Proofs.YtjbiikbmbacjkaaDoor.Graph

def Gives (f : FuncId) (a b : Int) : Prop := ∃ v, isW v ∧ ∀ w, Calls Tryd.prog f #[.int .u32 a, .int .u32 b] w fun e w' => e = .returned (.int .u32 v) ∧ w' = w
theorem isW_wrap (a : Int) : isW (IntKind.u32.wrap a) := by rw [IntKind.wrap_u32]; exact isW_mod a
def bitOf : Bool → Int
  | true => 1
  | false => 0
theorem bool_prog (c : Bool) (w : World) : Calls Tryd.prog 65 #[.bool c] w fun e w' => e = .returned (.int .u32 (bitOf c)) ∧ w' = w := by
  cases c
  all_goals
    go_enter Tryd.func65, Tryd.ntmps65
    go_wp2
    go_ret
    exact ⟨rfl, rfl⟩
theorem isW_bool (c : Bool) : isW (bitOf c) := by unfold isW; cases c <;> simp [bitOf]
theorem isW_div {a b : Int} (ha : isW a) (hb : 0 ≤ b) : isW (a / b) := ⟨Int.ediv_nonneg ha.1 hb, Int.lt_of_le_of_lt (Int.ediv_le_self b ha.1) ha.2⟩
theorem isW_rem {a b : Int} (hb : isW b) (hz : b ≠ 0) : isW (a % b) := ⟨Int.emod_nonneg a hz, Int.lt_trans (Int.emod_lt_of_pos a (by have := hb.1; omega)) hb.2⟩
theorem two_pow (k : Nat) : (0 : Int) ≤ 2 ^ k := Int.le_of_lt (Int.pow_pos (by decide))
theorem i32_ne {b : Int} (hb : isW b) (hz : b ≠ 0) : RowKit.wrap32 b ≠ 0 := by
  obtain ⟨h1, h2⟩ := hb
  unfold RowKit.wrap32; omega
theorem ltS_prog (a b : Int) (ha : isW a) (hb : isW b) : ∃ c : Bool, ∀ w, Calls Tryd.prog 68 #[.int .u32 a, .int .u32 b] w fun e w' => e = .returned (.bool c) ∧ w' = w := by
  obtain ⟨a0, a1⟩ := ha
  obtain ⟨b0, b1⟩ := hb
  apply Exists.intro
  intro w
  go_enter Tryd.func68, Tryd.ntmps68
  go_wp2
  go_ret
  exact ⟨rfl, rfl⟩
set_option maxHeartbeats 1000000 in
theorem gives0 (a b : Int) (ha : isW a) (hb : isW b) : Gives 51 a b := by
  obtain ⟨a0, a1⟩ := ha
  obtain ⟨b0, b1⟩ := hb
  apply Exists.intro
  apply And.intro
  rotate_left
  intro w
  go_enter Tryd.func51, Tryd.ntmps51
  go_wp2_with fail
  go_ret
  exact ⟨rfl, rfl⟩
  all_goals first | exact isW_bool _ | exact isW_div ⟨by assumption, by assumption⟩ (by first | assumption | exact two_pow _) | exact isW_rem ⟨by assumption, by assumption⟩ (by assumption) | exact isW_mod _ | exact isW_wrap _ | (unfold isW; omega) | skip
set_option maxHeartbeats 1000000 in
theorem gives1 (a b : Int) (ha : isW a) (hb : isW b) : Gives 52 a b := by
  obtain ⟨a0, a1⟩ := ha
  obtain ⟨b0, b1⟩ := hb
  apply Exists.intro
  apply And.intro
  rotate_left
  intro w
  go_enter Tryd.func52, Tryd.ntmps52
  go_wp2_with fail
  go_ret
  exact ⟨rfl, rfl⟩
  all_goals first | exact isW_bool _ | exact isW_div ⟨by assumption, by assumption⟩ (by first | assumption | exact two_pow _) | exact isW_rem ⟨by assumption, by assumption⟩ (by assumption) | exact isW_mod _ | exact isW_wrap _ | (unfold isW; omega) | skip
set_option maxHeartbeats 1000000 in
theorem gives2 (a b : Int) (ha : isW a) (hb : isW b) : Gives 53 a b := by
  obtain ⟨a0, a1⟩ := ha
  obtain ⟨b0, b1⟩ := hb
  apply Exists.intro
  apply And.intro
  rotate_left
  intro w
  go_enter Tryd.func53, Tryd.ntmps53
  go_wp2_with fail
  go_ret
  exact ⟨rfl, rfl⟩
  all_goals first | exact isW_bool _ | exact isW_div ⟨by assumption, by assumption⟩ (by first | assumption | exact two_pow _) | exact isW_rem ⟨by assumption, by assumption⟩ (by assumption) | exact isW_mod _ | exact isW_wrap _ | (unfold isW; omega) | skip
set_option maxHeartbeats 1000000 in
theorem gives3 (a b : Int) (ha : isW a) (hb : isW b) (hz : b ≠ 0) : Gives 54 a b := by
  obtain ⟨a0, a1⟩ := ha
  obtain ⟨b0, b1⟩ := hb
  apply Exists.intro
  apply And.intro
  rotate_left
  intro w
  have hne := i32_ne (b := b) ⟨b0, b1⟩ hz
  go_enter Tryd.func54, Tryd.ntmps54
  go_wp2_with fail
  go_ret
  exact ⟨rfl, rfl⟩
  all_goals first | exact isW_bool _ | exact isW_div ⟨by assumption, by assumption⟩ (by first | assumption | exact two_pow _) | exact isW_rem ⟨by assumption, by assumption⟩ (by assumption) | exact isW_mod _ | exact isW_wrap _ | (unfold isW; omega) | skip
set_option maxHeartbeats 1000000 in
theorem gives4 (a b : Int) (ha : isW a) (hb : isW b) (hz : b ≠ 0) : Gives 55 a b := by
  obtain ⟨a0, a1⟩ := ha
  obtain ⟨b0, b1⟩ := hb
  apply Exists.intro
  apply And.intro
  rotate_left
  intro w
  go_enter Tryd.func55, Tryd.ntmps55
  go_wp2_with fail
  go_ret
  exact ⟨rfl, rfl⟩
  all_goals first | exact isW_bool _ | exact isW_div ⟨by assumption, by assumption⟩ (by first | assumption | exact two_pow _) | exact isW_rem ⟨by assumption, by assumption⟩ (by assumption) | exact isW_mod _ | exact isW_wrap _ | (unfold isW; omega) | skip
set_option maxHeartbeats 1000000 in
theorem gives5 (a b : Int) (ha : isW a) (hb : isW b) (hz : b ≠ 0) : Gives 56 a b := by
  obtain ⟨a0, a1⟩ := ha
  obtain ⟨b0, b1⟩ := hb
  apply Exists.intro
  apply And.intro
  rotate_left
  intro w
  have hne := i32_ne (b := b) ⟨b0, b1⟩ hz
  go_enter Tryd.func56, Tryd.ntmps56
  go_wp2_with fail
  go_ret
  exact ⟨rfl, rfl⟩
  all_goals first | exact isW_bool _ | exact isW_div ⟨by assumption, by assumption⟩ (by first | assumption | exact two_pow _) | exact isW_rem ⟨by assumption, by assumption⟩ (by assumption) | exact isW_mod _ | exact isW_wrap _ | (unfold isW; omega) | skip
set_option maxHeartbeats 1000000 in
theorem gives6 (a b : Int) (ha : isW a) (hb : isW b) (hz : b ≠ 0) : Gives 57 a b := by
  obtain ⟨a0, a1⟩ := ha
  obtain ⟨b0, b1⟩ := hb
  apply Exists.intro
  apply And.intro
  rotate_left
  intro w
  go_enter Tryd.func57, Tryd.ntmps57
  go_wp2_with fail
  go_ret
  exact ⟨rfl, rfl⟩
  all_goals first | exact isW_bool _ | exact isW_div ⟨by assumption, by assumption⟩ (by first | assumption | exact two_pow _) | exact isW_rem ⟨by assumption, by assumption⟩ (by assumption) | exact isW_mod _ | exact isW_wrap _ | (unfold isW; omega) | skip
set_option maxHeartbeats 1000000 in
theorem gives7 (a b : Int) (ha : isW a) (hb : isW b) : Gives 58 a b := by
  obtain ⟨a0, a1⟩ := ha
  obtain ⟨b0, b1⟩ := hb
  apply Exists.intro
  apply And.intro
  rotate_left
  intro w
  go_enter Tryd.func58, Tryd.ntmps58
  go_wp2_with fail
  go_ret
  exact ⟨rfl, rfl⟩
  all_goals first | exact isW_bool _ | exact isW_div ⟨by assumption, by assumption⟩ (by first | assumption | exact two_pow _) | exact isW_rem ⟨by assumption, by assumption⟩ (by assumption) | exact isW_mod _ | exact isW_wrap _ | (unfold isW; omega) | skip
set_option maxHeartbeats 1000000 in
theorem gives8 (a b : Int) (ha : isW a) (hb : isW b) : Gives 59 a b := by
  obtain ⟨a0, a1⟩ := ha
  obtain ⟨b0, b1⟩ := hb
  apply Exists.intro
  apply And.intro
  rotate_left
  intro w
  go_enter Tryd.func59, Tryd.ntmps59
  go_wp2_with fail
  go_ret
  exact ⟨rfl, rfl⟩
  all_goals first | exact isW_bool _ | exact isW_div ⟨by assumption, by assumption⟩ (by first | assumption | exact two_pow _) | exact isW_rem ⟨by assumption, by assumption⟩ (by assumption) | exact isW_mod _ | exact isW_wrap _ | (unfold isW; omega) | skip
set_option maxHeartbeats 1000000 in
theorem gives9 (a b : Int) (ha : isW a) (hb : isW b) : Gives 60 a b := by
  obtain ⟨a0, a1⟩ := ha
  obtain ⟨b0, b1⟩ := hb
  apply Exists.intro
  apply And.intro
  rotate_left
  intro w
  go_enter Tryd.func60, Tryd.ntmps60
  go_wp2_with fail
  go_ret
  exact ⟨rfl, rfl⟩
  all_goals first | exact isW_bool _ | exact isW_div ⟨by assumption, by assumption⟩ (by first | assumption | exact two_pow _) | exact isW_rem ⟨by assumption, by assumption⟩ (by assumption) | exact isW_mod _ | exact isW_wrap _ | (unfold isW; omega) | skip
set_option maxHeartbeats 1000000 in
theorem gives10 (a b : Int) (ha : isW a) (hb : isW b) : Gives 61 a b := by
  obtain ⟨a0, a1⟩ := ha
  obtain ⟨b0, b1⟩ := hb
  apply Exists.intro
  apply And.intro
  rotate_left
  intro w
  go_enter Tryd.func61, Tryd.ntmps61
  go_wp2_with fail
  go_ret
  exact ⟨rfl, rfl⟩
  all_goals first | exact isW_bool _ | exact isW_div ⟨by assumption, by assumption⟩ (by first | assumption | exact two_pow _) | exact isW_rem ⟨by assumption, by assumption⟩ (by assumption) | exact isW_mod _ | exact isW_wrap _ | (unfold isW; omega) | skip
set_option maxHeartbeats 1000000 in
theorem gives11 (a b : Int) (ha : isW a) (hb : isW b) : Gives 62 a b := by
  obtain ⟨a0, a1⟩ := ha
  obtain ⟨b0, b1⟩ := hb
  apply Exists.intro
  apply And.intro
  rotate_left
  intro w
  go_enter Tryd.func62, Tryd.ntmps62
  go_wp2_with fail
  go_ret
  exact ⟨rfl, rfl⟩
  all_goals first | exact isW_bool _ | exact isW_div ⟨by assumption, by assumption⟩ (by first | assumption | exact two_pow _) | exact isW_rem ⟨by assumption, by assumption⟩ (by assumption) | exact isW_mod _ | exact isW_wrap _ | (unfold isW; omega) | skip
set_option maxHeartbeats 1000000 in
theorem gives12 (a b : Int) (ha : isW a) (hb : isW b) : Gives 63 a b := by
  obtain ⟨a0, a1⟩ := ha
  obtain ⟨b0, b1⟩ := hb
  apply Exists.intro
  apply And.intro
  rotate_left
  intro w
  go_enter Tryd.func63, Tryd.ntmps63
  go_wp2_with fail
  go_ret
  exact ⟨rfl, rfl⟩
  all_goals first | exact isW_bool _ | exact isW_div ⟨by assumption, by assumption⟩ (by first | assumption | exact two_pow _) | exact isW_rem ⟨by assumption, by assumption⟩ (by assumption) | exact isW_mod _ | exact isW_wrap _ | (unfold isW; omega) | skip
set_option maxHeartbeats 1000000 in
theorem gives13 (a b : Int) (ha : isW a) (hb : isW b) : Gives 64 a b := by
  obtain ⟨a0, a1⟩ := ha
  obtain ⟨b0, b1⟩ := hb
  apply Exists.intro
  apply And.intro
  rotate_left
  intro w
  go_enter Tryd.func64, Tryd.ntmps64
  go_wp2_with (first    | (go_at_call 65; refine (bool_prog _ _).mono ?_; rintro e w1 ⟨rfl, rfl⟩))
  go_ret
  exact ⟨rfl, rfl⟩
  all_goals first | exact isW_bool _ | exact isW_div ⟨by assumption, by assumption⟩ (by first | assumption | exact two_pow _) | exact isW_rem ⟨by assumption, by assumption⟩ (by assumption) | exact isW_mod _ | exact isW_wrap _ | (unfold isW; omega) | skip
set_option maxHeartbeats 1000000 in
theorem gives14 (a b : Int) (ha : isW a) (hb : isW b) : Gives 66 a b := by
  obtain ⟨a0, a1⟩ := ha
  obtain ⟨b0, b1⟩ := hb
  apply Exists.intro
  apply And.intro
  rotate_left
  intro w
  go_enter Tryd.func66, Tryd.ntmps66
  go_wp2_with (first    | (go_at_call 65; refine (bool_prog _ _).mono ?_; rintro e w1 ⟨rfl, rfl⟩))
  go_ret
  exact ⟨rfl, rfl⟩
  all_goals first | exact isW_bool _ | exact isW_div ⟨by assumption, by assumption⟩ (by first | assumption | exact two_pow _) | exact isW_rem ⟨by assumption, by assumption⟩ (by assumption) | exact isW_mod _ | exact isW_wrap _ | (unfold isW; omega) | skip
set_option maxHeartbeats 1000000 in
theorem gives15 (a b : Int) (ha : isW a) (hb : isW b) : Gives 67 a b := by
  obtain ⟨c, hc⟩ := ltS_prog a b ha hb
  obtain ⟨a0, a1⟩ := ha
  obtain ⟨b0, b1⟩ := hb
  apply Exists.intro
  apply And.intro
  rotate_left
  intro w
  go_enter Tryd.func67, Tryd.ntmps67
  go_wp2_with (first
    | (go_at_call 65; refine (bool_prog _ _).mono ?_; rintro e w1 ⟨rfl, rfl⟩)
    | (go_at_call 68; refine (hc _).mono ?_; rintro e w1 ⟨rfl, rfl⟩))
  go_ret
  exact ⟨rfl, rfl⟩
  all_goals first | exact isW_bool _ | exact isW_div ⟨by assumption, by assumption⟩ (by first | assumption | exact two_pow _) | exact isW_rem ⟨by assumption, by assumption⟩ (by assumption) | exact isW_mod _ | exact isW_wrap _ | (unfold isW; omega) | skip
set_option maxHeartbeats 1000000 in
theorem gives16 (a b : Int) (ha : isW a) (hb : isW b) : Gives 69 a b := by
  obtain ⟨a0, a1⟩ := ha
  obtain ⟨b0, b1⟩ := hb
  apply Exists.intro
  apply And.intro
  rotate_left
  intro w
  go_enter Tryd.func69, Tryd.ntmps69
  go_wp2_with (first    | (go_at_call 65; refine (bool_prog _ _).mono ?_; rintro e w1 ⟨rfl, rfl⟩))
  go_ret
  exact ⟨rfl, rfl⟩
  all_goals first | exact isW_bool _ | exact isW_div ⟨by assumption, by assumption⟩ (by first | assumption | exact two_pow _) | exact isW_rem ⟨by assumption, by assumption⟩ (by assumption) | exact isW_mod _ | exact isW_wrap _ | (unfold isW; omega) | skip
set_option maxHeartbeats 1000000 in
theorem gives17 (a b : Int) (ha : isW a) (hb : isW b) : Gives 70 a b := by
  obtain ⟨c, hc⟩ := ltS_prog b a hb ha
  obtain ⟨a0, a1⟩ := ha
  obtain ⟨b0, b1⟩ := hb
  apply Exists.intro
  apply And.intro
  rotate_left
  intro w
  go_enter Tryd.func70, Tryd.ntmps70
  go_wp2_with (first
    | (go_at_call 65; refine (bool_prog _ _).mono ?_; rintro e w1 ⟨rfl, rfl⟩)
    | (go_at_call 68; refine (hc _).mono ?_; rintro e w1 ⟨rfl, rfl⟩))
  go_ret
  exact ⟨rfl, rfl⟩
  all_goals first | exact isW_bool _ | exact isW_div ⟨by assumption, by assumption⟩ (by first | assumption | exact two_pow _) | exact isW_rem ⟨by assumption, by assumption⟩ (by assumption) | exact isW_mod _ | exact isW_wrap _ | (unfold isW; omega) | skip
set_option maxHeartbeats 1000000 in
theorem gives18 (a b : Int) (ha : isW a) (hb : isW b) : Gives 71 a b := by
  obtain ⟨a0, a1⟩ := ha
  obtain ⟨b0, b1⟩ := hb
  apply Exists.intro
  apply And.intro
  rotate_left
  intro w
  go_enter Tryd.func71, Tryd.ntmps71
  go_wp2_with (first    | (go_at_call 65; refine (bool_prog _ _).mono ?_; rintro e w1 ⟨rfl, rfl⟩))
  go_ret
  exact ⟨rfl, rfl⟩
  all_goals first | exact isW_bool _ | exact isW_div ⟨by assumption, by assumption⟩ (by first | assumption | exact two_pow _) | exact isW_rem ⟨by assumption, by assumption⟩ (by assumption) | exact isW_mod _ | exact isW_wrap _ | (unfold isW; omega) | skip
end Go.Proofs.YtjbiikbmbacjkaaDoor.Emu
