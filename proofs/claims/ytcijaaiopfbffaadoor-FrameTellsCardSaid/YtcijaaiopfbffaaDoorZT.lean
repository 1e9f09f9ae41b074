/- How many there are: no more than some number. No condition. -/
import Derived.Test.YtcijaaiopfbffaaDoorZq
import Derived.Laws.Bits128
import Derived.Shelf.Spec.TrailingZeros
namespace Go.Proofs.YtcijaaiopfbffaaDoor.Live
open Go.RowKit Go.Proofs.YtcijaaiopfbffaaDoor.Graph

theorem fin127 {e : Ending} (x : Int) (h : e = .returned (.int .i64 (bits .and .i64 x 127))) : ∃ c : Nat, c ≤ 127 ∧ e = .returned (.int .i64 (c : Nat)) := by
  rw [i64_and127] at h
  refine ⟨(x % 128).toNat, by omega, ?_⟩
  rw [h, Int.toNat_of_nonneg (by omega)]
set_option maxHeartbeats 4000000 in
set_option maxRecDepth 100000 in
theorem ones_any (v : Nat) (w : World) :
    Calls Tryd.prog 76 #[.int .u64 (v : Nat)] w fun e w' => w' = w ∧ ∃ c : Nat, c ≤ 127 ∧ e = .returned (.int .i64 (c : Nat)) := by
  have v0 : (0 : Int) ≤ v := by omega
  go_enter Tryd.func76, Tryd.ntmps76
  go_wp2
  go_ret
  exact ⟨rfl, fin127 _ rfl⟩
set_option maxHeartbeats 4000000 in
set_option maxRecDepth 100000 in
/-- Of a set that lies in a row of sets. -/
theorem count_any {g n b : Nat} {U : Nat → Nat → Nat} {w : World} (h : SetsAt w g n U) (hb : b < n) (_hn : n ≤ 20000) :
    Calls Tryd.prog 56 #[.pointer (some ⟨g, b * 125, none⟩)] w fun e w' => w' = w ∧ ∃ c : Nat, c ≤ 15875 ∧ e = .returned (.int .i64 (c : Nat)) := by
  have HH := Lib.hid h
  clear h
  go_enter Tryd.func56, Tryd.ntmps56
  go_wp2
  go_loopw [3, 7] (fun c i wr => ∃ (k z : Nat), k ≤ 125 ∧ i = .int .i64 k ∧ c = .int .i64 z ∧ z ≤ 127 * k ∧ wr = w) (fun _ i _ => 125 - (intOf i).toNat)
  case atStart => exact ⟨0, 0, by omega, rfl, rfl, by omega, rfl⟩
  case round =>
    obtain ⟨k, z, hk, rfl, rfl, hz, rfl⟩ := hrel
    by_cases hkn : k < 125
    · have ki : (k : Int) < 125 := by omega
      have k0 : (0 : Int) ≤ k := by omega
      have cc := HH.out.cell hb hkn
      have z0 : (0 : Int) ≤ z := by omega
      have z1 : (z : Int) ≤ 15875 := by omega
      have HO := Lib.hid (ones_any (U b k) wr)
      go_wp2_with (
        go_at_call 76
        go_loud (refine HO.out.mono ?_
                 rintro e w1 ⟨h1, c, hc, rfl⟩
                 subst h1
                 have hc2 : (c : Int) ≤ 127 := by omega
                 have hc0 : (0 : Int) ≤ c := by omega))
      exact ⟨⟨k + 1, z + c, by omega, by go_num, by go_num, by omega, by first | trivial | rfl⟩, by simp [intOf]; omega⟩
    · obtain rfl : k = 125 := by omega
      go_wp2
      go_ret
      exact ⟨rfl, z, by omega, rfl⟩
end Go.Proofs.YtcijaaiopfbffaaDoor.Live
namespace Go.Proofs.YtcijaaiopfbffaaDoor.Live
open Go.RowKit Go.Proofs.YtcijaaiopfbffaaDoor.Graph

set_option maxHeartbeats 2000000 in
set_option maxRecDepth 100000 in
theorem tz_core (x k idx : Nat) (w : World) (hx0 : ((x : Int) == 0) = false)
    (key : IntKind.u64.wrap (bits BinOp.and IntKind.u64 (x : Int) (IntKind.u64.wrap (-(x : Int))) * 285870213051353865) / 288230376151711744 = (idx : Int))
    (hi : idx < 64) (hk : k < 64) (hcell : w.cell? ⟨0, idx, none⟩ = some (.int .u8 k)) :
    Calls Tryd.prog 78 #[.int .u64 (x : Nat)] w fun e w' => e = .returned (.int .i64 (k : Nat)) ∧ w' = w := by
  go_enter Tryd.func78, Tryd.ntmps78
  go_wp2_with (simp only [key])
  go_ret
  exact ⟨rfl, rfl⟩
theorem tz_any (x : Nat) (hx : x < 18446744073709551616) (hx0 : x ≠ 0) (w : World) (hT : TabAt 0 Lib.deBruijn64tab w) :
    Calls Tryd.prog 78 #[.int .u64 (x : Nat)] w fun e w' => e = .returned (.int .i64 (Lib.ctz 64 x : Nat)) ∧ w' = w := by
  obtain ⟨hlow, hk⟩ := Lib.lowest_bit 64 x hx0 hx
  obtain ⟨hi, htab⟩ := Lib.deBruijn64_at _ hk
  have hcell := hT _ hi
  rw [htab] at hcell
  exact tz_core x _ _ w (by simp; omega) (tz64_key x _ hx hx0 hlow) hi hk hcell
end Go.Proofs.YtcijaaiopfbffaaDoor.Live
