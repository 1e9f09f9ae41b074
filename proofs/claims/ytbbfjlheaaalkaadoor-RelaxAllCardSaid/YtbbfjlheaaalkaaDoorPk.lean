/- The law's pick: one of so many. No condition. -/
import Derived.Test.YtbbfjlheaaalkaaDoorRx0
namespace Go.Proofs.YtbbfjlheaaalkaaDoor.Relax
open Go.RowKit Go.Proofs.YtbbfjlheaaalkaaDoor.Enc Go.Proofs.YtbbfjlheaaalkaaDoor.Graph

/-- One of so many, of any number. -/
def pickN (c : Int) (n : Nat) : Nat := ((if c < 0 then -(c + 1) else c) % (n : Int)).toNat
theorem pickN_lt (c : Int) {n : Nat} (hn : 0 < n) : pickN c n < n := by
  unfold pickN
  have h1 := Int.emod_lt_of_pos (if c < 0 then -(c + 1) else c) (show (0 : Int) < n by omega)
  have h2 := Int.emod_nonneg (if c < 0 then -(c + 1) else c) (show (n : Int) ≠ 0 by omega)
  omega
def PickPost (c : Int) (n : Nat) (w : World) (e : Ending) (w' : World) : Prop := e = .returned (.int .i64 (pickN c n)) ∧ w' = w
theorem PickPost.mk {c : Int} {n : Nat} {w : World} {z : Int} (hn : 0 < n) (h : z = (if c < 0 then -(c + 1) else c) % (n : Int)) : PickPost c n w (.returned (.int .i64 z)) w := by
  refine ⟨?_, rfl⟩
  unfold pickN
  rw [Int.toNat_of_nonneg (Int.emod_nonneg _ (by omega)), h]
set_option maxHeartbeats 1000000 in
theorem pick_any (c : Int) (n : Nat) (h1 : -9223372036854775808 ≤ c) (h2 : c ≤ 9223372036854775807) (hn : 0 < n) (hm : n ≤ 9223372036854775807) (w : World) :
    Calls Tryd.prog 13 #[.int .i64 c, .int .i64 n] w (PickPost c n w) := by
  have hn0 : ((n : Int) == 0) = false := by simp; omega
  have i1 : (0 : Int) < n := by omega
  have i2 : (n : Int) ≤ 9223372036854775807 := by omega
  by_cases hc : c < 0
  · go_enter Tryd.func13, Tryd.ntmps13
    go_wp2
    go_ret
    exact PickPost.mk hn (by rw [if_pos hc, ← Int.neg_tmod, Int.tmod_eq_emod_of_nonneg (by omega)])
  · go_enter Tryd.func13, Tryd.ntmps13
    go_wp2
    go_ret
    exact PickPost.mk hn (by rw [if_neg (by omega)])
end Go.Proofs.YtbbfjlheaaalkaaDoor.Relax
