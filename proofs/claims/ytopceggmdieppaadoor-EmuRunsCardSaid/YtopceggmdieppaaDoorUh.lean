/- The document's Arith of layer 6, in words of ar. No condition. -/
import Derived.Test.YtopceggmdieppaaDoorHB
namespace Go.Proofs.YtopceggmdieppaaDoor.Emu
open Go.RowKit Go.Proofs.YtopceggmdieppaaDoor.Enc Go.Proofs.YtopceggmdieppaaDoor.Graph

set_option maxHeartbeats 2000000 in
theorem divN3 (a : Int) (ha : isW a) (w : World) : Calls Tryd.prog 129 #[.int .i64 9, .int .u32 a, .int .u32 0] w fun e w' => e = .returned (.tuple #[.int .u32 0, .bool false]) ∧ w' = w := by
  obtain ⟨a0, a1⟩ := ha
  go_enter Tryd.func129, Tryd.ntmps129
  go_wp2
  exact bodyPost_ret (results_tmp2 rfl _ _ _) rfl ⟨rfl, rfl⟩
set_option maxHeartbeats 2000000 in
theorem divN4 (a : Int) (ha : isW a) (w : World) : Calls Tryd.prog 129 #[.int .i64 10, .int .u32 a, .int .u32 0] w fun e w' => e = .returned (.tuple #[.int .u32 0, .bool false]) ∧ w' = w := by
  obtain ⟨a0, a1⟩ := ha
  go_enter Tryd.func129, Tryd.ntmps129
  go_wp2
  exact bodyPost_ret (results_tmp2 rfl _ _ _) rfl ⟨rfl, rfl⟩
set_option maxHeartbeats 2000000 in
theorem divN5 (a : Int) (ha : isW a) (w : World) : Calls Tryd.prog 129 #[.int .i64 11, .int .u32 a, .int .u32 0] w fun e w' => e = .returned (.tuple #[.int .u32 0, .bool false]) ∧ w' = w := by
  obtain ⟨a0, a1⟩ := ha
  go_enter Tryd.func129, Tryd.ntmps129
  go_wp2
  exact bodyPost_ret (results_tmp2 rfl _ _ _) rfl ⟨rfl, rfl⟩
set_option maxHeartbeats 2000000 in
theorem divN6 (a : Int) (ha : isW a) (w : World) : Calls Tryd.prog 129 #[.int .i64 12, .int .u32 a, .int .u32 0] w fun e w' => e = .returned (.tuple #[.int .u32 0, .bool false]) ∧ w' = w := by
  obtain ⟨a0, a1⟩ := ha
  go_enter Tryd.func129, Tryd.ntmps129
  go_wp2
  exact bodyPost_ret (results_tmp2 rfl _ _ _) rfl ⟨rfl, rfl⟩
theorem divN : ∀ (k : Nat), divides k → ∀ (a : Int), isW a → ∀ w, Calls Tryd.prog 129 #[.int .i64 ((k + 6 : Nat) : Int), .int .u32 a, .int .u32 0] w fun e w' => e = .returned (.tuple #[.int .u32 0, .bool false]) ∧ w' = w
  | 3, _ => divN3
  | 4, _ => divN4
  | 5, _ => divN5
  | 6, _ => divN6
  | 0, h => absurd h (by unfold divides; omega)
  | 1, h => absurd h (by unfold divides; omega)
  | 2, h => absurd h (by unfold divides; omega)
  | n + 7, h => absurd h (by unfold divides; omega)
set_option maxHeartbeats 1000000 in
theorem arith6 {o a b : Int} {v : Int} {c : Bool} (h : ∀ w, Calls Tryd.prog 129 #[.int .i64 o, .int .u32 a, .int .u32 b] w fun e w' => e = .returned (.tuple #[.int .u32 v, .bool c]) ∧ w' = w) (w : World) :
    Calls Tryd.prog 120 #[.int .i64 o, .int .u32 a, .int .u32 b] w fun e w' => e = .returned (.tuple #[.int .u32 v, .bool c]) ∧ w' = w := by
  have HC := Lib.hid h
  clear h
  go_enter Tryd.func120, Tryd.ntmps120
  go_wp2_with (go_at_call 129; refine (HC.out _).mono ?_; rintro e w1 ⟨rfl, rfl⟩)
  exact bodyPost_ret (results_tmp2 rfl _ _ _) rfl ⟨rfl, rfl⟩
theorem arith_none (k : Int) (hk : 0 ≤ k ∧ k ≤ 18) (a b : Int) (ha : isW a) (hb : isW b) (h : ar k a b = none) (w : World) :
    Calls Tryd.prog 120 #[.int .i64 (k + 6), .int .u32 a, .int .u32 b] w fun e w' => e = .returned (.tuple #[.int .u32 0, .bool false]) ∧ w' = w := by
  obtain ⟨n, rfl⟩ : ∃ n : Nat, k = n := ⟨k.toNat, by omega⟩
  by_cases hz : divides n → b ≠ 0
  · obtain ⟨v, hv, _⟩ := ar_some (k := n) (by omega) ha hb hz
    rw [hv] at h; cases h
  · have hd : divides n := Classical.byContradiction fun hn => hz fun hd => absurd hd hn
    have hb0 : b = 0 := Classical.byContradiction fun hn => hz fun _ => hn
    subst hb0
    exact arith6 (divN n hd a ha) w
theorem arith_some (k : Int) (hk : 0 ≤ k ∧ k ≤ 18) (a b v : Int) (ha : isW a) (hb : isW b) (h : ar k a b = some v) (w : World) :
    Calls Tryd.prog 120 #[.int .i64 (k + 6), .int .u32 a, .int .u32 b] w fun e w' => e = .returned (.tuple #[.int .u32 v, .bool true]) ∧ w' = w := by
  obtain ⟨n, rfl⟩ : ∃ n : Nat, k = n := ⟨k.toNat, by omega⟩
  by_cases hz : divides n → b ≠ 0
  · exact arith6 (ar_ref (k := n) (by omega) ha hb hz h) w
  · have hd : divides n := Classical.byContradiction fun hn => hz fun hd => absurd hd hn
    have hb0 : b = 0 := Classical.byContradiction fun hn => hz fun _ => hn
    rw [ar_none (k := n) ⟨hd, hb0⟩] at h; cases h
end Go.Proofs.YtopceggmdieppaaDoor.Emu
