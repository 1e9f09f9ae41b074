/- How the machine reckons, all nineteen functions at once; a division by 0 is a trap. No condition. -/
import Derived.Test.YtopceggmdieppaaDoorBf
namespace Go.Proofs.YtopceggmdieppaaDoor.Emu
open Go.RowKit Go.Proofs.YtopceggmdieppaaDoor.Enc Go.Proofs.YtopceggmdieppaaDoor.Graph

def divides (k : Nat) : Prop := 3 ≤ k ∧ k ≤ 6
def fOf : Nat → FuncId
  | 0 => 86
  | 1 => 87
  | 2 => 88
  | 3 => 89
  | 4 => 90
  | 5 => 91
  | 6 => 92
  | 7 => 93
  | 8 => 94
  | 9 => 95
  | 10 => 96
  | 11 => 97
  | 12 => 98
  | 13 => 99
  | 14 => 101
  | 15 => 102
  | 16 => 104
  | 17 => 105
  | 18 => 106
  | _ => 0
abbrev funV (f : FuncId) : Value := .func (.func f) #[] #[]
theorem gives_all : ∀ (k : Nat), k < 19 → ∀ a b : Int, isW a → isW b → (divides k → b ≠ 0) → Gives (fOf k) ((k + 6 : Nat) : Int) a b
  | 0, _, a, b, ha, hb, _ => gives0 a b ha hb
  | 1, _, a, b, ha, hb, _ => gives1 a b ha hb
  | 2, _, a, b, ha, hb, _ => gives2 a b ha hb
  | 3, _, a, b, ha, hb, hz => gives3 a b ha hb (hz ⟨by omega, by omega⟩)
  | 4, _, a, b, ha, hb, hz => gives4 a b ha hb (hz ⟨by omega, by omega⟩)
  | 5, _, a, b, ha, hb, hz => gives5 a b ha hb (hz ⟨by omega, by omega⟩)
  | 6, _, a, b, ha, hb, hz => gives6 a b ha hb (hz ⟨by omega, by omega⟩)
  | 7, _, a, b, ha, hb, _ => gives7 a b ha hb
  | 8, _, a, b, ha, hb, _ => gives8 a b ha hb
  | 9, _, a, b, ha, hb, _ => gives9 a b ha hb
  | 10, _, a, b, ha, hb, _ => gives10 a b ha hb
  | 11, _, a, b, ha, hb, _ => gives11 a b ha hb
  | 12, _, a, b, ha, hb, _ => gives12 a b ha hb
  | 13, _, a, b, ha, hb, _ => gives13 a b ha hb
  | 14, _, a, b, ha, hb, _ => gives14 a b ha hb
  | 15, _, a, b, ha, hb, _ => gives15 a b ha hb
  | 16, _, a, b, ha, hb, _ => gives16 a b ha hb
  | 17, _, a, b, ha, hb, _ => gives17 a b ha hb
  | 18, _, a, b, ha, hb, _ => gives18 a b ha hb
  | n + 19, hk, _, _, _, _, _ => absurd hk (by omega)
open Classical in
noncomputable def ar (k a b : Int) : Option Int :=
  if h : (0 ≤ k ∧ k.toNat < 19) ∧ isW a ∧ isW b ∧ (divides k.toNat → b ≠ 0) then some (Classical.choose (gives_all k.toNat h.1.2 a b h.2.1 h.2.2.1 h.2.2.2)) else none
theorem ar_none {k : Nat} {a b : Int} (h : divides k ∧ b = 0) : ar k a b = none := by
  unfold ar
  rw [dif_neg (fun hh => hh.2.2.2 (by rw [Int.toNat_natCast]; exact h.1) h.2)]
theorem ar_some {k : Nat} {a b : Int} (hk : k < 19) (ha : isW a) (hb : isW b) (hz : divides k → b ≠ 0) :
    ∃ v, ar k a b = some v ∧ isW v ∧ ∀ w, Calls Tryd.prog (fOf k) #[.int .u32 a, .int .u32 b] w fun e w' => e = .returned (.int .u32 v) ∧ w' = w := by
  have h : (0 ≤ (k : Int) ∧ (k : Int).toNat < 19) ∧ isW a ∧ isW b ∧ (divides (k : Int).toNat → b ≠ 0) := ⟨⟨by omega, by omega⟩, ha, hb, by rw [Int.toNat_natCast]; exact hz⟩
  have hs := Classical.choose_spec (gives_all (k : Int).toNat h.1.2 a b h.2.1 h.2.2.1 h.2.2.2)
  refine ⟨Classical.choose (gives_all (k : Int).toNat h.1.2 a b h.2.1 h.2.2.1 h.2.2.2), by unfold ar; rw [dif_pos h], hs.1, ?_⟩
  exact fun w => hs.2.1 w
/-- The document's Arith of layer 3 gives the same word. -/
theorem ar_ref {k : Nat} {a b v : Int} (hk : k < 19) (ha : isW a) (hb : isW b) (hz : divides k → b ≠ 0) (hv : ar k a b = some v) :
    ∀ w, Calls Tryd.prog 129 #[.int .i64 ((k + 6 : Nat) : Int), .int .u32 a, .int .u32 b] w fun e w' => e = .returned (.tuple #[.int .u32 v, .bool true]) ∧ w' = w := by
  have h : (0 ≤ (k : Int) ∧ (k : Int).toNat < 19) ∧ isW a ∧ isW b ∧ (divides (k : Int).toNat → b ≠ 0) := ⟨⟨by omega, by omega⟩, ha, hb, by rw [Int.toNat_natCast]; exact hz⟩
  have hs := Classical.choose_spec (gives_all (k : Int).toNat h.1.2 a b h.2.1 h.2.2.1 h.2.2.2)
  unfold ar at hv
  rw [dif_pos h] at hv
  injection hv with hv
  rw [← hv]
  exact fun w => hs.2.2 w
theorem ar_isW (k a b v : Int) (h : ar k a b = some v) : isW v := by
  unfold ar at h
  split at h
  · rename_i hh
    injection h with h
    subst h
    exact (Classical.choose_spec (gives_all k.toNat hh.1.2 a b hh.2.1 hh.2.2.1 hh.2.2.2)).1
  · cases h
/-- What reckoning comes to: a word, or the trap. -/
def ReckPost (k : Nat) (a b : Int) (w : World) (e : Ending) (w2 : World) : Prop :=
  (ar k a b = none → e = thrown 1) ∧ (∀ v, ar k a b = some v → e = .returned (.int .u32 v)) ∧ w2 = w
section
variable {x : Fz} {E : Env} {wk : Nat → Value} {w w' : World} {m : M} {ad buf back : Value} {pg : Nat → Option Nat}
set_option maxHeartbeats 2000000 in
set_option maxRecDepth 100000 in
theorem reckon0 (h : St x E wk w w' m ad buf back pg) (hwk : wk 6 = funV 86) (a b : Int) (ha : isW a) (hb : isW b) : Calls Tryd.prog 115 #[.pointer (some ⟨x.bm, 0, none⟩), .int .u8 5, .int .u32 a, .int .u32 b] w' (ReckPost 0 a b w') := by
  obtain ⟨cf, ff⟩ := h.cell (k := 29) (by decide)
  change _ = some (wk 6) at cf
  rw [hwk] at cf
  clear hwk
  obtain ⟨v, hv, _, hc⟩ := ar_some (k := 0) (by omega) ha hb (fun hd => absurd hd (by unfold divides; omega))
  have HC := Lib.hid hc
  have HP := Lib.hid (show ∀ e w2, (e = Ending.returned (.int .u32 v) ∧ w2 = w') → ReckPost 0 a b w' e w2 from fun e w2 he => ⟨fun hn => (by rw [hv] at hn; cases hn), fun v' hv' => (by rw [hv] at hv'; injection hv' with hv'; rw [← hv']; exact he.1), he.2⟩)
  obtain ⟨a0, a1⟩ := ha
  obtain ⟨b0, b1⟩ := hb
  clear h hc hv
  refine Calls.mono ?_ HP.out
  go_enter Tryd.func115, Tryd.ntmps115
  go_wp2_with (go_at_call 86; refine (HC.out _).mono ?_; rintro e w1 ⟨rfl, rfl⟩)
  go_ret
  exact ⟨rfl, rfl⟩
set_option maxHeartbeats 2000000 in
set_option maxRecDepth 100000 in
theorem reckon1 (h : St x E wk w w' m ad buf back pg) (hwk : wk 7 = funV 87) (a b : Int) (ha : isW a) (hb : isW b) : Calls Tryd.prog 115 #[.pointer (some ⟨x.bm, 0, none⟩), .int .u8 6, .int .u32 a, .int .u32 b] w' (ReckPost 1 a b w') := by
  obtain ⟨cf, ff⟩ := h.cell (k := 30) (by decide)
  change _ = some (wk 7) at cf
  rw [hwk] at cf
  clear hwk
  obtain ⟨v, hv, _, hc⟩ := ar_some (k := 1) (by omega) ha hb (fun hd => absurd hd (by unfold divides; omega))
  have HC := Lib.hid hc
  have HP := Lib.hid (show ∀ e w2, (e = Ending.returned (.int .u32 v) ∧ w2 = w') → ReckPost 1 a b w' e w2 from fun e w2 he => ⟨fun hn => (by rw [hv] at hn; cases hn), fun v' hv' => (by rw [hv] at hv'; injection hv' with hv'; rw [← hv']; exact he.1), he.2⟩)
  obtain ⟨a0, a1⟩ := ha
  obtain ⟨b0, b1⟩ := hb
  clear h hc hv
  refine Calls.mono ?_ HP.out
  go_enter Tryd.func115, Tryd.ntmps115
  go_wp2_with (go_at_call 87; refine (HC.out _).mono ?_; rintro e w1 ⟨rfl, rfl⟩)
  go_ret
  exact ⟨rfl, rfl⟩
set_option maxHeartbeats 2000000 in
set_option maxRecDepth 100000 in
theorem reckon2 (h : St x E wk w w' m ad buf back pg) (hwk : wk 8 = funV 88) (a b : Int) (ha : isW a) (hb : isW b) : Calls Tryd.prog 115 #[.pointer (some ⟨x.bm, 0, none⟩), .int .u8 7, .int .u32 a, .int .u32 b] w' (ReckPost 2 a b w') := by
  obtain ⟨cf, ff⟩ := h.cell (k := 31) (by decide)
  change _ = some (wk 8) at cf
  rw [hwk] at cf
  clear hwk
  obtain ⟨v, hv, _, hc⟩ := ar_some (k := 2) (by omega) ha hb (fun hd => absurd hd (by unfold divides; omega))
  have HC := Lib.hid hc
  have HP := Lib.hid (show ∀ e w2, (e = Ending.returned (.int .u32 v) ∧ w2 = w') → ReckPost 2 a b w' e w2 from fun e w2 he => ⟨fun hn => (by rw [hv] at hn; cases hn), fun v' hv' => (by rw [hv] at hv'; injection hv' with hv'; rw [← hv']; exact he.1), he.2⟩)
  obtain ⟨a0, a1⟩ := ha
  obtain ⟨b0, b1⟩ := hb
  clear h hc hv
  refine Calls.mono ?_ HP.out
  go_enter Tryd.func115, Tryd.ntmps115
  go_wp2_with (go_at_call 88; refine (HC.out _).mono ?_; rintro e w1 ⟨rfl, rfl⟩)
  go_ret
  exact ⟨rfl, rfl⟩
set_option maxHeartbeats 2000000 in
set_option maxRecDepth 100000 in
theorem reckon3 (h : St x E wk w w' m ad buf back pg) (hwk : wk 9 = funV 89) (a b : Int) (ha : isW a) (hb : isW b) : Calls Tryd.prog 115 #[.pointer (some ⟨x.bm, 0, none⟩), .int .u8 8, .int .u32 a, .int .u32 b] w' (ReckPost 3 a b w') := by
  obtain ⟨cf, ff⟩ := h.cell (k := 32) (by decide)
  change _ = some (wk 9) at cf
  rw [hwk] at cf
  clear hwk
  by_cases hz : b = 0
  · have hv := ar_none (k := 3) (a := a) (b := b) ⟨(by unfold divides; omega), hz⟩
    have HP := Lib.hid (show ∀ e w2, (e = thrown 1 ∧ w2 = w') → ReckPost 3 a b w' e w2 from fun e w2 he => ⟨fun _ => he.1, fun v' hv' => (by rw [hv] at hv'; cases hv'), he.2⟩)
    subst hz
    clear h hv ha hb
    refine Calls.mono ?_ HP.out
    go_enter Tryd.func115, Tryd.ntmps115
    go_wp2
    exact ⟨rfl, rfl, rfl⟩
  · obtain ⟨v, hv, _, hc⟩ := ar_some (k := 3) (by omega) ha hb (fun _ => hz)
    have HC := Lib.hid hc
    have HP := Lib.hid (show ∀ e w2, (e = Ending.returned (.int .u32 v) ∧ w2 = w') → ReckPost 3 a b w' e w2 from fun e w2 he => ⟨fun hn => (by rw [hv] at hn; cases hn), fun v' hv' => (by rw [hv] at hv'; injection hv' with hv'; rw [← hv']; exact he.1), he.2⟩)
    obtain ⟨a0, a1⟩ := ha
    obtain ⟨b0, b1⟩ := hb
    clear h hc hv
    refine Calls.mono ?_ HP.out
    go_enter Tryd.func115, Tryd.ntmps115
    go_wp2_with (go_at_call 89; refine (HC.out _).mono ?_; rintro e w1 ⟨rfl, rfl⟩)
    go_ret
    exact ⟨rfl, rfl⟩
set_option maxHeartbeats 2000000 in
set_option maxRecDepth 100000 in
theorem reckon4 (h : St x E wk w w' m ad buf back pg) (hwk : wk 10 = funV 90) (a b : Int) (ha : isW a) (hb : isW b) : Calls Tryd.prog 115 #[.pointer (some ⟨x.bm, 0, none⟩), .int .u8 9, .int .u32 a, .int .u32 b] w' (ReckPost 4 a b w') := by
  obtain ⟨cf, ff⟩ := h.cell (k := 33) (by decide)
  change _ = some (wk 10) at cf
  rw [hwk] at cf
  clear hwk
  by_cases hz : b = 0
  · have hv := ar_none (k := 4) (a := a) (b := b) ⟨(by unfold divides; omega), hz⟩
    have HP := Lib.hid (show ∀ e w2, (e = thrown 1 ∧ w2 = w') → ReckPost 4 a b w' e w2 from fun e w2 he => ⟨fun _ => he.1, fun v' hv' => (by rw [hv] at hv'; cases hv'), he.2⟩)
    subst hz
    clear h hv ha hb
    refine Calls.mono ?_ HP.out
    go_enter Tryd.func115, Tryd.ntmps115
    go_wp2
    exact ⟨rfl, rfl, rfl⟩
  · obtain ⟨v, hv, _, hc⟩ := ar_some (k := 4) (by omega) ha hb (fun _ => hz)
    have HC := Lib.hid hc
    have HP := Lib.hid (show ∀ e w2, (e = Ending.returned (.int .u32 v) ∧ w2 = w') → ReckPost 4 a b w' e w2 from fun e w2 he => ⟨fun hn => (by rw [hv] at hn; cases hn), fun v' hv' => (by rw [hv] at hv'; injection hv' with hv'; rw [← hv']; exact he.1), he.2⟩)
    obtain ⟨a0, a1⟩ := ha
    obtain ⟨b0, b1⟩ := hb
    clear h hc hv
    refine Calls.mono ?_ HP.out
    go_enter Tryd.func115, Tryd.ntmps115
    go_wp2_with (go_at_call 90; refine (HC.out _).mono ?_; rintro e w1 ⟨rfl, rfl⟩)
    go_ret
    exact ⟨rfl, rfl⟩
set_option maxHeartbeats 2000000 in
set_option maxRecDepth 100000 in
theorem reckon5 (h : St x E wk w w' m ad buf back pg) (hwk : wk 11 = funV 91) (a b : Int) (ha : isW a) (hb : isW b) : Calls Tryd.prog 115 #[.pointer (some ⟨x.bm, 0, none⟩), .int .u8 10, .int .u32 a, .int .u32 b] w' (ReckPost 5 a b w') := by
  obtain ⟨cf, ff⟩ := h.cell (k := 34) (by decide)
  change _ = some (wk 11) at cf
  rw [hwk] at cf
  clear hwk
  by_cases hz : b = 0
  · have hv := ar_none (k := 5) (a := a) (b := b) ⟨(by unfold divides; omega), hz⟩
    have HP := Lib.hid (show ∀ e w2, (e = thrown 1 ∧ w2 = w') → ReckPost 5 a b w' e w2 from fun e w2 he => ⟨fun _ => he.1, fun v' hv' => (by rw [hv] at hv'; cases hv'), he.2⟩)
    subst hz
    clear h hv ha hb
    refine Calls.mono ?_ HP.out
    go_enter Tryd.func115, Tryd.ntmps115
    go_wp2
    exact ⟨rfl, rfl, rfl⟩
  · obtain ⟨v, hv, _, hc⟩ := ar_some (k := 5) (by omega) ha hb (fun _ => hz)
    have HC := Lib.hid hc
    have HP := Lib.hid (show ∀ e w2, (e = Ending.returned (.int .u32 v) ∧ w2 = w') → ReckPost 5 a b w' e w2 from fun e w2 he => ⟨fun hn => (by rw [hv] at hn; cases hn), fun v' hv' => (by rw [hv] at hv'; injection hv' with hv'; rw [← hv']; exact he.1), he.2⟩)
    obtain ⟨a0, a1⟩ := ha
    obtain ⟨b0, b1⟩ := hb
    clear h hc hv
    refine Calls.mono ?_ HP.out
    go_enter Tryd.func115, Tryd.ntmps115
    go_wp2_with (go_at_call 91; refine (HC.out _).mono ?_; rintro e w1 ⟨rfl, rfl⟩)
    go_ret
    exact ⟨rfl, rfl⟩
set_option maxHeartbeats 2000000 in
set_option maxRecDepth 100000 in
theorem reckon6 (h : St x E wk w w' m ad buf back pg) (hwk : wk 12 = funV 92) (a b : Int) (ha : isW a) (hb : isW b) : Calls Tryd.prog 115 #[.pointer (some ⟨x.bm, 0, none⟩), .int .u8 11, .int .u32 a, .int .u32 b] w' (ReckPost 6 a b w') := by
  obtain ⟨cf, ff⟩ := h.cell (k := 35) (by decide)
  change _ = some (wk 12) at cf
  rw [hwk] at cf
  clear hwk
  by_cases hz : b = 0
  · have hv := ar_none (k := 6) (a := a) (b := b) ⟨(by unfold divides; omega), hz⟩
    have HP := Lib.hid (show ∀ e w2, (e = thrown 1 ∧ w2 = w') → ReckPost 6 a b w' e w2 from fun e w2 he => ⟨fun _ => he.1, fun v' hv' => (by rw [hv] at hv'; cases hv'), he.2⟩)
    subst hz
    clear h hv ha hb
    refine Calls.mono ?_ HP.out
    go_enter Tryd.func115, Tryd.ntmps115
    go_wp2
    exact ⟨rfl, rfl, rfl⟩
  · obtain ⟨v, hv, _, hc⟩ := ar_some (k := 6) (by omega) ha hb (fun _ => hz)
    have HC := Lib.hid hc
    have HP := Lib.hid (show ∀ e w2, (e = Ending.returned (.int .u32 v) ∧ w2 = w') → ReckPost 6 a b w' e w2 from fun e w2 he => ⟨fun hn => (by rw [hv] at hn; cases hn), fun v' hv' => (by rw [hv] at hv'; injection hv' with hv'; rw [← hv']; exact he.1), he.2⟩)
    obtain ⟨a0, a1⟩ := ha
    obtain ⟨b0, b1⟩ := hb
    clear h hc hv
    refine Calls.mono ?_ HP.out
    go_enter Tryd.func115, Tryd.ntmps115
    go_wp2_with (go_at_call 92; refine (HC.out _).mono ?_; rintro e w1 ⟨rfl, rfl⟩)
    go_ret
    exact ⟨rfl, rfl⟩
set_option maxHeartbeats 2000000 in
set_option maxRecDepth 100000 in
theorem reckon7 (h : St x E wk w w' m ad buf back pg) (hwk : wk 13 = funV 93) (a b : Int) (ha : isW a) (hb : isW b) : Calls Tryd.prog 115 #[.pointer (some ⟨x.bm, 0, none⟩), .int .u8 12, .int .u32 a, .int .u32 b] w' (ReckPost 7 a b w') := by
  obtain ⟨cf, ff⟩ := h.cell (k := 36) (by decide)
  change _ = some (wk 13) at cf
  rw [hwk] at cf
  clear hwk
  obtain ⟨v, hv, _, hc⟩ := ar_some (k := 7) (by omega) ha hb (fun hd => absurd hd (by unfold divides; omega))
  have HC := Lib.hid hc
  have HP := Lib.hid (show ∀ e w2, (e = Ending.returned (.int .u32 v) ∧ w2 = w') → ReckPost 7 a b w' e w2 from fun e w2 he => ⟨fun hn => (by rw [hv] at hn; cases hn), fun v' hv' => (by rw [hv] at hv'; injection hv' with hv'; rw [← hv']; exact he.1), he.2⟩)
  obtain ⟨a0, a1⟩ := ha
  obtain ⟨b0, b1⟩ := hb
  clear h hc hv
  refine Calls.mono ?_ HP.out
  go_enter Tryd.func115, Tryd.ntmps115
  go_wp2_with (go_at_call 93; refine (HC.out _).mono ?_; rintro e w1 ⟨rfl, rfl⟩)
  go_ret
  exact ⟨rfl, rfl⟩
set_option maxHeartbeats 2000000 in
set_option maxRecDepth 100000 in
theorem reckon8 (h : St x E wk w w' m ad buf back pg) (hwk : wk 14 = funV 94) (a b : Int) (ha : isW a) (hb : isW b) : Calls Tryd.prog 115 #[.pointer (some ⟨x.bm, 0, none⟩), .int .u8 13, .int .u32 a, .int .u32 b] w' (ReckPost 8 a b w') := by
  obtain ⟨cf, ff⟩ := h.cell (k := 37) (by decide)
  change _ = some (wk 14) at cf
  rw [hwk] at cf
  clear hwk
  obtain ⟨v, hv, _, hc⟩ := ar_some (k := 8) (by omega) ha hb (fun hd => absurd hd (by unfold divides; omega))
  have HC := Lib.hid hc
  have HP := Lib.hid (show ∀ e w2, (e = Ending.returned (.int .u32 v) ∧ w2 = w') → ReckPost 8 a b w' e w2 from fun e w2 he => ⟨fun hn => (by rw [hv] at hn; cases hn), fun v' hv' => (by rw [hv] at hv'; injection hv' with hv'; rw [← hv']; exact he.1), he.2⟩)
  obtain ⟨a0, a1⟩ := ha
  obtain ⟨b0, b1⟩ := hb
  clear h hc hv
  refine Calls.mono ?_ HP.out
  go_enter Tryd.func115, Tryd.ntmps115
  go_wp2_with (go_at_call 94; refine (HC.out _).mono ?_; rintro e w1 ⟨rfl, rfl⟩)
  go_ret
  exact ⟨rfl, rfl⟩
set_option maxHeartbeats 2000000 in
set_option maxRecDepth 100000 in
theorem reckon9 (h : St x E wk w w' m ad buf back pg) (hwk : wk 15 = funV 95) (a b : Int) (ha : isW a) (hb : isW b) : Calls Tryd.prog 115 #[.pointer (some ⟨x.bm, 0, none⟩), .int .u8 14, .int .u32 a, .int .u32 b] w' (ReckPost 9 a b w') := by
  obtain ⟨cf, ff⟩ := h.cell (k := 38) (by decide)
  change _ = some (wk 15) at cf
  rw [hwk] at cf
  clear hwk
  obtain ⟨v, hv, _, hc⟩ := ar_some (k := 9) (by omega) ha hb (fun hd => absurd hd (by unfold divides; omega))
  have HC := Lib.hid hc
  have HP := Lib.hid (show ∀ e w2, (e = Ending.returned (.int .u32 v) ∧ w2 = w') → ReckPost 9 a b w' e w2 from fun e w2 he => ⟨fun hn => (by rw [hv] at hn; cases hn), fun v' hv' => (by rw [hv] at hv'; injection hv' with hv'; rw [← hv']; exact he.1), he.2⟩)
  obtain ⟨a0, a1⟩ := ha
  obtain ⟨b0, b1⟩ := hb
  clear h hc hv
  refine Calls.mono ?_ HP.out
  go_enter Tryd.func115, Tryd.ntmps115
  go_wp2_with (go_at_call 95; refine (HC.out _).mono ?_; rintro e w1 ⟨rfl, rfl⟩)
  go_ret
  exact ⟨rfl, rfl⟩
set_option maxHeartbeats 2000000 in
set_option maxRecDepth 100000 in
theorem reckon10 (h : St x E wk w w' m ad buf back pg) (hwk : wk 16 = funV 96) (a b : Int) (ha : isW a) (hb : isW b) : Calls Tryd.prog 115 #[.pointer (some ⟨x.bm, 0, none⟩), .int .u8 15, .int .u32 a, .int .u32 b] w' (ReckPost 10 a b w') := by
  obtain ⟨cf, ff⟩ := h.cell (k := 39) (by decide)
  change _ = some (wk 16) at cf
  rw [hwk] at cf
  clear hwk
  obtain ⟨v, hv, _, hc⟩ := ar_some (k := 10) (by omega) ha hb (fun hd => absurd hd (by unfold divides; omega))
  have HC := Lib.hid hc
  have HP := Lib.hid (show ∀ e w2, (e = Ending.returned (.int .u32 v) ∧ w2 = w') → ReckPost 10 a b w' e w2 from fun e w2 he => ⟨fun hn => (by rw [hv] at hn; cases hn), fun v' hv' => (by rw [hv] at hv'; injection hv' with hv'; rw [← hv']; exact he.1), he.2⟩)
  obtain ⟨a0, a1⟩ := ha
  obtain ⟨b0, b1⟩ := hb
  clear h hc hv
  refine Calls.mono ?_ HP.out
  go_enter Tryd.func115, Tryd.ntmps115
  go_wp2_with (go_at_call 96; refine (HC.out _).mono ?_; rintro e w1 ⟨rfl, rfl⟩)
  go_ret
  exact ⟨rfl, rfl⟩
set_option maxHeartbeats 2000000 in
set_option maxRecDepth 100000 in
theorem reckon11 (h : St x E wk w w' m ad buf back pg) (hwk : wk 17 = funV 97) (a b : Int) (ha : isW a) (hb : isW b) : Calls Tryd.prog 115 #[.pointer (some ⟨x.bm, 0, none⟩), .int .u8 16, .int .u32 a, .int .u32 b] w' (ReckPost 11 a b w') := by
  obtain ⟨cf, ff⟩ := h.cell (k := 40) (by decide)
  change _ = some (wk 17) at cf
  rw [hwk] at cf
  clear hwk
  obtain ⟨v, hv, _, hc⟩ := ar_some (k := 11) (by omega) ha hb (fun hd => absurd hd (by unfold divides; omega))
  have HC := Lib.hid hc
  have HP := Lib.hid (show ∀ e w2, (e = Ending.returned (.int .u32 v) ∧ w2 = w') → ReckPost 11 a b w' e w2 from fun e w2 he => ⟨fun hn => (by rw [hv] at hn; cases hn), fun v' hv' => (by rw [hv] at hv'; injection hv' with hv'; rw [← hv']; exact he.1), he.2⟩)
  obtain ⟨a0, a1⟩ := ha
  obtain ⟨b0, b1⟩ := hb
  clear h hc hv
  refine Calls.mono ?_ HP.out
  go_enter Tryd.func115, Tryd.ntmps115
  go_wp2_with (go_at_call 97; refine (HC.out _).mono ?_; rintro e w1 ⟨rfl, rfl⟩)
  go_ret
  exact ⟨rfl, rfl⟩
set_option maxHeartbeats 2000000 in
set_option maxRecDepth 100000 in
theorem reckon12 (h : St x E wk w w' m ad buf back pg) (hwk : wk 18 = funV 98) (a b : Int) (ha : isW a) (hb : isW b) : Calls Tryd.prog 115 #[.pointer (some ⟨x.bm, 0, none⟩), .int .u8 17, .int .u32 a, .int .u32 b] w' (ReckPost 12 a b w') := by
  obtain ⟨cf, ff⟩ := h.cell (k := 41) (by decide)
  change _ = some (wk 18) at cf
  rw [hwk] at cf
  clear hwk
  obtain ⟨v, hv, _, hc⟩ := ar_some (k := 12) (by omega) ha hb (fun hd => absurd hd (by unfold divides; omega))
  have HC := Lib.hid hc
  have HP := Lib.hid (show ∀ e w2, (e = Ending.returned (.int .u32 v) ∧ w2 = w') → ReckPost 12 a b w' e w2 from fun e w2 he => ⟨fun hn => (by rw [hv] at hn; cases hn), fun v' hv' => (by rw [hv] at hv'; injection hv' with hv'; rw [← hv']; exact he.1), he.2⟩)
  obtain ⟨a0, a1⟩ := ha
  obtain ⟨b0, b1⟩ := hb
  clear h hc hv
  refine Calls.mono ?_ HP.out
  go_enter Tryd.func115, Tryd.ntmps115
  go_wp2_with (go_at_call 98; refine (HC.out _).mono ?_; rintro e w1 ⟨rfl, rfl⟩)
  go_ret
  exact ⟨rfl, rfl⟩
set_option maxHeartbeats 2000000 in
set_option maxRecDepth 100000 in
theorem reckon13 (h : St x E wk w w' m ad buf back pg) (hwk : wk 19 = funV 99) (a b : Int) (ha : isW a) (hb : isW b) : Calls Tryd.prog 115 #[.pointer (some ⟨x.bm, 0, none⟩), .int .u8 18, .int .u32 a, .int .u32 b] w' (ReckPost 13 a b w') := by
  obtain ⟨cf, ff⟩ := h.cell (k := 42) (by decide)
  change _ = some (wk 19) at cf
  rw [hwk] at cf
  clear hwk
  obtain ⟨v, hv, _, hc⟩ := ar_some (k := 13) (by omega) ha hb (fun hd => absurd hd (by unfold divides; omega))
  have HC := Lib.hid hc
  have HP := Lib.hid (show ∀ e w2, (e = Ending.returned (.int .u32 v) ∧ w2 = w') → ReckPost 13 a b w' e w2 from fun e w2 he => ⟨fun hn => (by rw [hv] at hn; cases hn), fun v' hv' => (by rw [hv] at hv'; injection hv' with hv'; rw [← hv']; exact he.1), he.2⟩)
  obtain ⟨a0, a1⟩ := ha
  obtain ⟨b0, b1⟩ := hb
  clear h hc hv
  refine Calls.mono ?_ HP.out
  go_enter Tryd.func115, Tryd.ntmps115
  go_wp2_with (go_at_call 99; refine (HC.out _).mono ?_; rintro e w1 ⟨rfl, rfl⟩)
  go_ret
  exact ⟨rfl, rfl⟩
set_option maxHeartbeats 2000000 in
set_option maxRecDepth 100000 in
theorem reckon14 (h : St x E wk w w' m ad buf back pg) (hwk : wk 20 = funV 101) (a b : Int) (ha : isW a) (hb : isW b) : Calls Tryd.prog 115 #[.pointer (some ⟨x.bm, 0, none⟩), .int .u8 19, .int .u32 a, .int .u32 b] w' (ReckPost 14 a b w') := by
  obtain ⟨cf, ff⟩ := h.cell (k := 43) (by decide)
  change _ = some (wk 20) at cf
  rw [hwk] at cf
  clear hwk
  obtain ⟨v, hv, _, hc⟩ := ar_some (k := 14) (by omega) ha hb (fun hd => absurd hd (by unfold divides; omega))
  have HC := Lib.hid hc
  have HP := Lib.hid (show ∀ e w2, (e = Ending.returned (.int .u32 v) ∧ w2 = w') → ReckPost 14 a b w' e w2 from fun e w2 he => ⟨fun hn => (by rw [hv] at hn; cases hn), fun v' hv' => (by rw [hv] at hv'; injection hv' with hv'; rw [← hv']; exact he.1), he.2⟩)
  obtain ⟨a0, a1⟩ := ha
  obtain ⟨b0, b1⟩ := hb
  clear h hc hv
  refine Calls.mono ?_ HP.out
  go_enter Tryd.func115, Tryd.ntmps115
  go_wp2_with (go_at_call 101; refine (HC.out _).mono ?_; rintro e w1 ⟨rfl, rfl⟩)
  go_ret
  exact ⟨rfl, rfl⟩
set_option maxHeartbeats 2000000 in
set_option maxRecDepth 100000 in
theorem reckon15 (h : St x E wk w w' m ad buf back pg) (hwk : wk 21 = funV 102) (a b : Int) (ha : isW a) (hb : isW b) : Calls Tryd.prog 115 #[.pointer (some ⟨x.bm, 0, none⟩), .int .u8 20, .int .u32 a, .int .u32 b] w' (ReckPost 15 a b w') := by
  obtain ⟨cf, ff⟩ := h.cell (k := 44) (by decide)
  change _ = some (wk 21) at cf
  rw [hwk] at cf
  clear hwk
  obtain ⟨v, hv, _, hc⟩ := ar_some (k := 15) (by omega) ha hb (fun hd => absurd hd (by unfold divides; omega))
  have HC := Lib.hid hc
  have HP := Lib.hid (show ∀ e w2, (e = Ending.returned (.int .u32 v) ∧ w2 = w') → ReckPost 15 a b w' e w2 from fun e w2 he => ⟨fun hn => (by rw [hv] at hn; cases hn), fun v' hv' => (by rw [hv] at hv'; injection hv' with hv'; rw [← hv']; exact he.1), he.2⟩)
  obtain ⟨a0, a1⟩ := ha
  obtain ⟨b0, b1⟩ := hb
  clear h hc hv
  refine Calls.mono ?_ HP.out
  go_enter Tryd.func115, Tryd.ntmps115
  go_wp2_with (go_at_call 102; refine (HC.out _).mono ?_; rintro e w1 ⟨rfl, rfl⟩)
  go_ret
  exact ⟨rfl, rfl⟩
set_option maxHeartbeats 2000000 in
set_option maxRecDepth 100000 in
theorem reckon16 (h : St x E wk w w' m ad buf back pg) (hwk : wk 22 = funV 104) (a b : Int) (ha : isW a) (hb : isW b) : Calls Tryd.prog 115 #[.pointer (some ⟨x.bm, 0, none⟩), .int .u8 21, .int .u32 a, .int .u32 b] w' (ReckPost 16 a b w') := by
  obtain ⟨cf, ff⟩ := h.cell (k := 45) (by decide)
  change _ = some (wk 22) at cf
  rw [hwk] at cf
  clear hwk
  obtain ⟨v, hv, _, hc⟩ := ar_some (k := 16) (by omega) ha hb (fun hd => absurd hd (by unfold divides; omega))
  have HC := Lib.hid hc
  have HP := Lib.hid (show ∀ e w2, (e = Ending.returned (.int .u32 v) ∧ w2 = w') → ReckPost 16 a b w' e w2 from fun e w2 he => ⟨fun hn => (by rw [hv] at hn; cases hn), fun v' hv' => (by rw [hv] at hv'; injection hv' with hv'; rw [← hv']; exact he.1), he.2⟩)
  obtain ⟨a0, a1⟩ := ha
  obtain ⟨b0, b1⟩ := hb
  clear h hc hv
  refine Calls.mono ?_ HP.out
  go_enter Tryd.func115, Tryd.ntmps115
  go_wp2_with (go_at_call 104; refine (HC.out _).mono ?_; rintro e w1 ⟨rfl, rfl⟩)
  go_ret
  exact ⟨rfl, rfl⟩
set_option maxHeartbeats 2000000 in
set_option maxRecDepth 100000 in
theorem reckon17 (h : St x E wk w w' m ad buf back pg) (hwk : wk 23 = funV 105) (a b : Int) (ha : isW a) (hb : isW b) : Calls Tryd.prog 115 #[.pointer (some ⟨x.bm, 0, none⟩), .int .u8 22, .int .u32 a, .int .u32 b] w' (ReckPost 17 a b w') := by
  obtain ⟨cf, ff⟩ := h.cell (k := 46) (by decide)
  change _ = some (wk 23) at cf
  rw [hwk] at cf
  clear hwk
  obtain ⟨v, hv, _, hc⟩ := ar_some (k := 17) (by omega) ha hb (fun hd => absurd hd (by unfold divides; omega))
  have HC := Lib.hid hc
  have HP := Lib.hid (show ∀ e w2, (e = Ending.returned (.int .u32 v) ∧ w2 = w') → ReckPost 17 a b w' e w2 from fun e w2 he => ⟨fun hn => (by rw [hv] at hn; cases hn), fun v' hv' => (by rw [hv] at hv'; injection hv' with hv'; rw [← hv']; exact he.1), he.2⟩)
  obtain ⟨a0, a1⟩ := ha
  obtain ⟨b0, b1⟩ := hb
  clear h hc hv
  refine Calls.mono ?_ HP.out
  go_enter Tryd.func115, Tryd.ntmps115
  go_wp2_with (go_at_call 105; refine (HC.out _).mono ?_; rintro e w1 ⟨rfl, rfl⟩)
  go_ret
  exact ⟨rfl, rfl⟩
set_option maxHeartbeats 2000000 in
set_option maxRecDepth 100000 in
theorem reckon18 (h : St x E wk w w' m ad buf back pg) (hwk : wk 24 = funV 106) (a b : Int) (ha : isW a) (hb : isW b) : Calls Tryd.prog 115 #[.pointer (some ⟨x.bm, 0, none⟩), .int .u8 23, .int .u32 a, .int .u32 b] w' (ReckPost 18 a b w') := by
  obtain ⟨cf, ff⟩ := h.cell (k := 47) (by decide)
  change _ = some (wk 24) at cf
  rw [hwk] at cf
  clear hwk
  obtain ⟨v, hv, _, hc⟩ := ar_some (k := 18) (by omega) ha hb (fun hd => absurd hd (by unfold divides; omega))
  have HC := Lib.hid hc
  have HP := Lib.hid (show ∀ e w2, (e = Ending.returned (.int .u32 v) ∧ w2 = w') → ReckPost 18 a b w' e w2 from fun e w2 he => ⟨fun hn => (by rw [hv] at hn; cases hn), fun v' hv' => (by rw [hv] at hv'; injection hv' with hv'; rw [← hv']; exact he.1), he.2⟩)
  obtain ⟨a0, a1⟩ := ha
  obtain ⟨b0, b1⟩ := hb
  clear h hc hv
  refine Calls.mono ?_ HP.out
  go_enter Tryd.func115, Tryd.ntmps115
  go_wp2_with (go_at_call 106; refine (HC.out _).mono ?_; rintro e w1 ⟨rfl, rfl⟩)
  go_ret
  exact ⟨rfl, rfl⟩
theorem reckon_prog (h : St x E wk w w' m ad buf back pg) (hwk : ∀ k, k < 19 → wk (k + 6) = funV (fOf k)) : ∀ (k : Nat), k < 19 → ∀ (a b : Int), isW a → isW b →
    Calls Tryd.prog 115 #[.pointer (some ⟨x.bm, 0, none⟩), .int .u8 (k + 5 : Nat), .int .u32 a, .int .u32 b] w' (ReckPost k a b w')
  | 0, hk, a, b, ha, hb => reckon0 h (hwk 0 hk) a b ha hb
  | 1, hk, a, b, ha, hb => reckon1 h (hwk 1 hk) a b ha hb
  | 2, hk, a, b, ha, hb => reckon2 h (hwk 2 hk) a b ha hb
  | 3, hk, a, b, ha, hb => reckon3 h (hwk 3 hk) a b ha hb
  | 4, hk, a, b, ha, hb => reckon4 h (hwk 4 hk) a b ha hb
  | 5, hk, a, b, ha, hb => reckon5 h (hwk 5 hk) a b ha hb
  | 6, hk, a, b, ha, hb => reckon6 h (hwk 6 hk) a b ha hb
  | 7, hk, a, b, ha, hb => reckon7 h (hwk 7 hk) a b ha hb
  | 8, hk, a, b, ha, hb => reckon8 h (hwk 8 hk) a b ha hb
  | 9, hk, a, b, ha, hb => reckon9 h (hwk 9 hk) a b ha hb
  | 10, hk, a, b, ha, hb => reckon10 h (hwk 10 hk) a b ha hb
  | 11, hk, a, b, ha, hb => reckon11 h (hwk 11 hk) a b ha hb
  | 12, hk, a, b, ha, hb => reckon12 h (hwk 12 hk) a b ha hb
  | 13, hk, a, b, ha, hb => reckon13 h (hwk 13 hk) a b ha hb
  | 14, hk, a, b, ha, hb => reckon14 h (hwk 14 hk) a b ha hb
  | 15, hk, a, b, ha, hb => reckon15 h (hwk 15 hk) a b ha hb
  | 16, hk, a, b, ha, hb => reckon16 h (hwk 16 hk) a b ha hb
  | 17, hk, a, b, ha, hb => reckon17 h (hwk 17 hk) a b ha hb
  | 18, hk, a, b, ha, hb => reckon18 h (hwk 18 hk) a b ha hb
  | n + 19, hk, _, _, _, _ => absurd hk (by omega)
end
end Go.Proofs.YtopceggmdieppaaDoor.Emu
