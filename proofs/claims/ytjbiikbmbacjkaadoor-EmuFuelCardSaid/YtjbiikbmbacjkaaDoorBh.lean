/- Which branches go: each condition is told. No condition. -/
import Derived.Test.YtjbiikbmbacjkaaDoorBg
namespace Go.Proofs.YtjbiikbmbacjkaaDoor.Emu
open Go.RowKit Go.Proofs.YtjbiikbmbacjkaaDoor.Enc Go.Proofs.YtjbiikbmbacjkaaDoor.Graph

def Tells (op a b : Int) : Prop := ∃ c : Bool, ∀ w, Calls Tryd.prog 79 #[.int .u8 op, .int .u32 a, .int .u32 b] w fun e w' => e = .returned (.bool c) ∧ w' = w
set_option maxHeartbeats 2000000 in
theorem tells30 (a b : Int) (ha : isW a) (hb : isW b) : Tells 30 a b := by
  obtain ⟨a0, a1⟩ := ha
  obtain ⟨b0, b1⟩ := hb
  apply Exists.intro
  intro w
  go_enter Tryd.func79, Tryd.ntmps79
  go_wp2_with fail
  go_ret
  exact ⟨rfl, rfl⟩
set_option maxHeartbeats 2000000 in
theorem tells31 (a b : Int) (ha : isW a) (hb : isW b) : Tells 31 a b := by
  obtain ⟨a0, a1⟩ := ha
  obtain ⟨b0, b1⟩ := hb
  apply Exists.intro
  intro w
  go_enter Tryd.func79, Tryd.ntmps79
  go_wp2_with fail
  go_ret
  exact ⟨rfl, rfl⟩
set_option maxHeartbeats 2000000 in
theorem tells32 (a b : Int) (ha : isW a) (hb : isW b) : Tells 32 a b := by
  obtain ⟨c, hc⟩ := ltS_prog a b ha hb
  obtain ⟨a0, a1⟩ := ha
  obtain ⟨b0, b1⟩ := hb
  apply Exists.intro
  intro w
  go_enter Tryd.func79, Tryd.ntmps79
  go_wp2_with (go_at_call 68; refine (hc _).mono ?_; rintro e w1 ⟨rfl, rfl⟩)
  go_ret
  exact ⟨rfl, rfl⟩
set_option maxHeartbeats 2000000 in
theorem tells33 (a b : Int) (ha : isW a) (hb : isW b) : Tells 33 a b := by
  obtain ⟨c, hc⟩ := ltS_prog a b ha hb
  obtain ⟨a0, a1⟩ := ha
  obtain ⟨b0, b1⟩ := hb
  apply Exists.intro
  intro w
  go_enter Tryd.func79, Tryd.ntmps79
  go_wp2_with (go_at_call 68; refine (hc _).mono ?_; rintro e w1 ⟨rfl, rfl⟩)
  go_ret
  exact ⟨rfl, rfl⟩
set_option maxHeartbeats 2000000 in
theorem tells34 (a b : Int) (ha : isW a) (hb : isW b) : Tells 34 a b := by
  obtain ⟨c, hc⟩ := ltS_prog b a hb ha
  obtain ⟨a0, a1⟩ := ha
  obtain ⟨b0, b1⟩ := hb
  apply Exists.intro
  intro w
  go_enter Tryd.func79, Tryd.ntmps79
  go_wp2_with (go_at_call 68; refine (hc _).mono ?_; rintro e w1 ⟨rfl, rfl⟩)
  go_ret
  exact ⟨rfl, rfl⟩
set_option maxHeartbeats 2000000 in
theorem tells35 (a b : Int) (ha : isW a) (hb : isW b) : Tells 35 a b := by
  obtain ⟨c, hc⟩ := ltS_prog b a hb ha
  obtain ⟨a0, a1⟩ := ha
  obtain ⟨b0, b1⟩ := hb
  apply Exists.intro
  intro w
  go_enter Tryd.func79, Tryd.ntmps79
  go_wp2_with (go_at_call 68; refine (hc _).mono ?_; rintro e w1 ⟨rfl, rfl⟩)
  go_ret
  exact ⟨rfl, rfl⟩
set_option maxHeartbeats 2000000 in
theorem tells36 (a b : Int) (ha : isW a) (hb : isW b) : Tells 36 a b := by
  obtain ⟨a0, a1⟩ := ha
  obtain ⟨b0, b1⟩ := hb
  apply Exists.intro
  intro w
  go_enter Tryd.func79, Tryd.ntmps79
  go_wp2_with fail
  go_ret
  exact ⟨rfl, rfl⟩
set_option maxHeartbeats 2000000 in
theorem tells37 (a b : Int) (ha : isW a) (hb : isW b) : Tells 37 a b := by
  obtain ⟨a0, a1⟩ := ha
  obtain ⟨b0, b1⟩ := hb
  apply Exists.intro
  intro w
  go_enter Tryd.func79, Tryd.ntmps79
  go_wp2_with fail
  go_ret
  exact ⟨rfl, rfl⟩
set_option maxHeartbeats 2000000 in
theorem tells38 (a b : Int) (ha : isW a) (hb : isW b) : Tells 38 a b := by
  obtain ⟨a0, a1⟩ := ha
  obtain ⟨b0, b1⟩ := hb
  apply Exists.intro
  intro w
  go_enter Tryd.func79, Tryd.ntmps79
  go_wp2_with fail
  go_ret
  exact ⟨rfl, rfl⟩
set_option maxHeartbeats 2000000 in
theorem tells39 (a b : Int) (ha : isW a) (hb : isW b) : Tells 39 a b := by
  obtain ⟨a0, a1⟩ := ha
  obtain ⟨b0, b1⟩ := hb
  apply Exists.intro
  intro w
  go_enter Tryd.func79, Tryd.ntmps79
  go_wp2_with fail
  go_ret
  exact ⟨rfl, rfl⟩
theorem tells_all : ∀ (k : Nat), k < 10 → ∀ (a b : Int), isW a → isW b → Tells ((k + 30 : Nat) : Int) a b
  | 0, _, a, b, ha, hb => tells30 a b ha hb
  | 1, _, a, b, ha, hb => tells31 a b ha hb
  | 2, _, a, b, ha, hb => tells32 a b ha hb
  | 3, _, a, b, ha, hb => tells33 a b ha hb
  | 4, _, a, b, ha, hb => tells34 a b ha hb
  | 5, _, a, b, ha, hb => tells35 a b ha hb
  | 6, _, a, b, ha, hb => tells36 a b ha hb
  | 7, _, a, b, ha, hb => tells37 a b ha hb
  | 8, _, a, b, ha, hb => tells38 a b ha hb
  | 9, _, a, b, ha, hb => tells39 a b ha hb
  | n + 10, hk, _, _, _, _ => absurd hk (by omega)
theorem tells_at {op : Int} (h : 30 ≤ op ∧ op ≤ 39) {a b : Int} (ha : isW a) (hb : isW b) : Tells op a b := by
  have := tells_all (op - 30).toNat (by omega) a b ha hb
  rwa [show (((op - 30).toNat + 30 : Nat) : Int) = op by omega] at this
open Classical in
noncomputable def hs (op a b : Int) : Bool :=
  if h : (30 ≤ op ∧ op ≤ 39) ∧ isW a ∧ isW b then Classical.choose (tells_at h.1 h.2.1 h.2.2) else false
theorem holds_prog {op : Int} (h : 30 ≤ op ∧ op ≤ 39) {a b : Int} (ha : isW a) (hb : isW b) (w : World) :
    Calls Tryd.prog 79 #[.int .u8 op, .int .u32 a, .int .u32 b] w fun e w' => e = .returned (.bool (hs op a b)) ∧ w' = w := by
  have := Classical.choose_spec (tells_at h ha hb)
  unfold hs
  rw [dif_pos ⟨h, ha, hb⟩]
  exact this w
end Go.Proofs.YtjbiikbmbacjkaaDoor.Emu
