/- Sets of temps: Has, Add. No condition but that the temp is one. -/
import Derived.Test.YtcijaaiopfbffaaDoorZe
import Derived.RegionTactic
namespace Go.Proofs.YtcijaaiopfbffaaDoor.Live
open Go.RowKit Go.Proofs.YtcijaaiopfbffaaDoor.Graph

theorem bit_num (v i : Nat) (hv : v < w64) : (bits .and .u64 ((v : Int) / 2 ^ i) 1 == 1) = v.testBit i := by
  have h1 : ((v : Int) / 2 ^ i) = ((v / 2 ^ i : Nat) : Int) := by simp
  have h2 : v / 2 ^ i < 18446744073709551616 := Nat.lt_of_le_of_lt (Nat.div_le_self _ _) hv
  rw [h1]
  have h3 := bits_and_u64_nat (v / 2 ^ i) 1 h2 (by decide)
  rw [show ((1 : Nat) : Int) = 1 from rfl] at h3
  rw [h3, ← shr_and]
  cases h : (v / 2 ^ i &&& 1 == 1)
  · simp at h ⊢; omega
  · simp at h ⊢; omega
set_option maxHeartbeats 4000000 in
theorem has_any (g o t : Nat) (U : Nat → Nat) (w : World) (ht : t < 8000) (hU : U (t / 64) < w64) (hc : w.cell? ⟨g, o + t / 64, none⟩ = some (.int .u64 (U (t / 64) : Nat))) :
    Calls Tryd.prog 87 #[.pointer (some ⟨g, o, none⟩), .int .i64 (t : Int)] w fun e w' => e = .returned (.bool (hasW U t)) ∧ w' = w := by
  have h0 : (0 : Int) ≤ t := by omega
  have hr : hasW U t = (U (t / 64)).testBit (t % 64) := rfl
  have hb := bit_num (U (t / 64)) (t % 64) hU
  rw [hr]
  have h3 : t / 64 < 125 := by omega
  have h4 : t % 64 < 64 := Nat.mod_lt _ (by decide)
  generalize U (t / 64) = v at *
  go_enter Tryd.func87, Tryd.ntmps87
  go_wp2
  go_ret
  exact ⟨rfl, rfl⟩
theorem shl_one (i : Nat) (hi : i < 64) : IntKind.u64.wrap (2 ^ i) = ((2 ^ i : Nat) : Int) := by
  have h1 : (2 : Nat) ^ i < 2 ^ 64 := Nat.pow_lt_pow_right (by decide) hi
  have e : ((2 : Int) ^ i) = ((2 ^ i : Nat) : Int) := by simp
  rw [e, IntKind.wrap_u64]
  generalize (2 : Nat) ^ i = p at *
  omega
set_option maxHeartbeats 4000000 in
theorem add_any (g o t : Nat) (U : Nat → Nat) (w : World) (ht : t < 8000) (hU : U (t / 64) < w64) (hc : w.cell? ⟨g, o + t / 64, none⟩ = some (.int .u64 (U (t / 64) : Nat))) (hf : w.frozen? ⟨g, o + t / 64, none⟩ = false) :
    Calls Tryd.prog 74 #[.pointer (some ⟨g, o, none⟩), .int .i64 (t : Int)] w fun e w' => e = .returned (.tuple #[]) ∧ w' = (w.setCell ⟨g, o + t / 64, none⟩ (.int .u64 (addW U t (t / 64) : Nat))).drew := by
  have h0 : (0 : Int) ≤ t := by omega
  have h4 : t % 64 < 64 := Nat.mod_lt _ (by decide)
  have hs := shl_one (t % 64) h4
  have h1 : (2 : Nat) ^ (t % 64) < 2 ^ 64 := Nat.pow_lt_pow_right (by decide) h4
  have hb := bits_or_u64_nat (U (t / 64)) (2 ^ (t % 64)) hU (by omega)
  have hr : addW U t (t / 64) = U (t / 64) ||| 2 ^ (t % 64) := by unfold addW; rw [if_pos rfl]
  rw [hr]
  have h3 : t / 64 < 125 := by omega
  generalize U (t / 64) = v at *
  go_enter Tryd.func74, Tryd.ntmps74
  go_wp2
  go_region
  all_goals
    go_wp2
    go_end0
    refine ⟨rfl, ?_⟩
    have e : ((2 : Int) ^ (t % 64)) = ((2 ^ (t % 64) : Nat) : Int) := by simp
    rw [e, hb]
end Go.Proofs.YtcijaaiopfbffaaDoor.Live
