/- The two modules of 'live': the program's Check at them. -/
import Derived.Test.YthaombggdchgbaaGi
import Derived.Test.YthaombggdchgbaaGj
import Derived.Test.YthaombggdchgbaaGk
import Derived.Test.YthaombggdchgbaaGm
import Derived.Test.YthaombggdchgbaaGn
import Derived.Test.YthaombggdchgbaaGq
import Derived.Deep.RegionHeld3
namespace Go.Proofs.Ythaombggdchgbaa.Graph
open Go.RowKit

theorem keep_zero (th f : Int) : keepI th f 0 = 0 := by unfold keepI; split <;> rfl
theorem keep_a : keepI 4 4 (-1) = -1 := by decide +kernel
abbrev zV (a : Int) : Value := .agg #[.int .i64 0, .int .i64 0, .int .i64 a, .int .i64 0, .int .i64 0, .int .u32 0, .int .i64 0, .int .i64 0, .int .i64 0, .int .i64 0, .int .i64 0, .int .i64 0]
theorem only_bad (w : World) : Calls Try.prog 64 #[zV 0, .int .i64 34] w (Is (zV 0) w) := by
  have h := only_any 0 0 0 0 0 0 0 0 0 0 0 0 34 w (by omega)
  simp only [keep_zero, fV] at h
  exact h
theorem only_good (w : World) : Calls Try.prog 64 #[zV (-1), .int .i64 4] w (Is (zV (-1)) w) := by
  have h := only_any 0 0 (-1) 0 0 0 0 0 0 0 0 0 4 w (by omega)
  simp only [keep_zero, keep_a, fV] at h
  exact h
abbrev g0V (pp ap bp : Option Addr) (np na nb pc ac bc : Nat) : Value := .agg #[.slice pp np pc, .int .i64 0, .slice ap na ac, .slice bp nb bc]
set_option maxHeartbeats 2000000 in
set_option maxRecDepth 100000 in
theorem temps_bad (pp ap bp : Option Addr) (np na nb pc ac bc : Nat) (b o : Nat) (w : World) (h1 : w.cell? ⟨b, o, none⟩ = some (.int .i64 1)) (h2 : w.cell? ⟨b, o + 1, none⟩ = some (.int .i64 0)) (hb : b < w.heap.size) :
    Calls Try.prog 65 #[g0V pp ap bp np na nb pc ac bc, .pointer (some ⟨b, o, none⟩), .int .i64 34] w (Is (.bool false) w) := by
  have HC : Hid (∀ w, Calls Try.prog 30 #[.int .i64 0, .int .i64 0] w fun e w' => e = .returned (.bool false) ∧ ∃ m, w' = w.drewN m) := Lib.hid (fun w => below_q 0 0 w)
  go_enter Try.func65, Try.ntmps65
  go_wp2
  go_quiet (first | (go_at_call 30; exact Calls.quiet_of (HC.out _)))
  go_wp2
  go_ret
  exact ⟨rfl, below_drew (below_alloc w _) nq⟩
abbrev badI : PIns := ⟨1, 0, 0, 0, 0, 0, [], []⟩
theorem insF_bad (b o : Nat) (va vr : Value) (w : World) (h : InsR w b o badI va vr) (hb : b < w.heap.size) :
    Calls Try.prog 63 #[.pointer (some ⟨b, o, none⟩)] w (Is (zV 0) w) := insFields_any badI b o va vr w h hb
def Twelve (w : World) (b : Nat) (a : Int) : Prop :=
  w.cell? ⟨b, 0, none⟩ = some (.int .i64 0) ∧ w.cell? ⟨b, 1, none⟩ = some (.int .i64 0) ∧ w.cell? ⟨b, 2, none⟩ = some (.int .i64 a) ∧ w.cell? ⟨b, 3, none⟩ = some (.int .i64 0) ∧ w.cell? ⟨b, 4, none⟩ = some (.int .i64 0) ∧ w.cell? ⟨b, 5, none⟩ = some (.int .u32 0) ∧
  w.cell? ⟨b, 6, none⟩ = some (.int .i64 0) ∧ w.cell? ⟨b, 7, none⟩ = some (.int .i64 0) ∧ w.cell? ⟨b, 8, none⟩ = some (.int .i64 0) ∧ w.cell? ⟨b, 9, none⟩ = some (.int .i64 0) ∧ w.cell? ⟨b, 10, none⟩ = some (.int .i64 0) ∧ w.cell? ⟨b, 11, none⟩ = some (.int .i64 0)
set_option maxHeartbeats 4000000 in
set_option maxRecDepth 100000 in
theorem ins_bad (cb : Nat) (pp ap bp : Option Addr) (np na nb pc ac bc : Nat) (b o : Nat) (va vr : Value) (w : World) (h : InsR w b o badI va vr) (hb : b < w.heap.size) :
    Calls Try.prog 35 #[.pointer (some ⟨cb, 0, none⟩), g0V pp ap bp np na nb pc ac bc, .pointer (some ⟨b, o, none⟩)] w (Is (.int .i64 51) w) := by
  have HI := Lib.hid (fun (w' : World) (hw : Below w.heap.size w w') => h.below hb hw)
  have HK : Hid (∀ w, Calls Try.prog 62 #[.int .i64 1] w fun e w' => e = .returned (.int .i64 34) ∧ w' = w) := Lib.hid (fun w => insHas_any 1 w)
  have HO := Lib.hid only_bad
  have HF := Lib.hid insF_bad
  have HT := Lib.hid temps_bad
  have c0 : w.cell? ⟨b, o, none⟩ = some (.int .i64 1) := h.op
  clear h
  go_enter Try.func35, Try.ntmps35
  go_wp2_with (first
    | (go_at_call 62; refine (HK.out _).mono ?_; rintro e w2 ⟨rfl, rfl⟩)
    | (go_at_call 63; refine (HF.out b o va vr _ (HI.out _ (below_alloc w _)) (Nat.lt_of_lt_of_le hb (below_alloc w _).size)).mono ?_; rintro e w2 ⟨rfl, h2⟩
       have B1 : Box4 w2 w.heap.size (.slice pp np pc) (.int .i64 0) (.slice ap na ac) (.slice bp nb bc) := Box4.below ⟨by go_simp, by go_simp, by go_simp, by go_simp, by go_simp⟩ h2
       have H2 := Lib.hid (below_then (below_alloc w _) h2); have HB1 := Lib.hid B1; clear h2 B1))
  have hsz : w2.heap.size < (w2.alloc (.cells #[.int .i64 0, .int .i64 0, .int .i64 0, .int .i64 0, .int .i64 0, .int .u32 0, .int .i64 0, .int .i64 0, .int .i64 0, .int .i64 0, .int .i64 0, .int .i64 0] 114)).heap.size := by rw [World.size_alloc]; omega
  go_region_held3 (fun w' => w'.cell? ⟨w2.heap.size, 0, none⟩ = some (.int .i64 0) ∧ w'.cell? ⟨w2.heap.size, 1, none⟩ = some (.int .i64 0) ∧ w'.cell? ⟨w2.heap.size, 2, none⟩ = some (.int .i64 0) ∧ w'.cell? ⟨w2.heap.size, 3, none⟩ = some (.int .i64 0) ∧ w'.cell? ⟨w2.heap.size, 4, none⟩ = some (.int .i64 0) ∧ w'.cell? ⟨w2.heap.size, 5, none⟩ = some (.int .u32 0) ∧ w'.cell? ⟨w2.heap.size, 6, none⟩ = some (.int .i64 0) ∧ w'.cell? ⟨w2.heap.size, 7, none⟩ = some (.int .i64 0) ∧ w'.cell? ⟨w2.heap.size, 8, none⟩ = some (.int .i64 0) ∧ w'.cell? ⟨w2.heap.size, 9, none⟩ = some (.int .i64 0) ∧ w'.cell? ⟨w2.heap.size, 10, none⟩ = some (.int .i64 0) ∧ w'.cell? ⟨w2.heap.size, 11, none⟩ = some (.int .i64 0))
    (first
      | go_keep
      | (refine ⟨?_, ?_, ?_, ?_, ?_, ?_, ?_, ?_, ?_, ?_, ?_, ?_⟩ <;> (rw [hb3.cell (by simp [World.size_alloc])]; simp [World.cell?_alloc_new])))
    ((go_at_call 64; refine (HO.out _).mono ?_; rintro e w3 ⟨rfl, hb3⟩))
  all_goals
    have h3 : Below w2.heap.size w2 w3 := (below_alloc w2 _).drew.trans (hb3.mono (by simp [World.size_alloc]))
    have H3 := Lib.hid (below_then H2.out h3)
    have HB3 := Lib.hid (HB1.out.below h3)
    clear hb3 h3 hsz
    have hi := HI.out w3 H3.out
    have l3 : b < w3.heap.size := Nat.lt_of_lt_of_le hb H3.out.size
    have d0 := hi.op
    have d1 := hi.d
    have HT3 := Lib.hid (HT.out pp ap bp np na nb pc ac bc b o w3 d0 d1 l3)
    obtain ⟨y0, y1, y2, y3, y4⟩ := HB3.out
    clear hi d1
    go_wp2_with (go_at_call 65; refine HT3.out.mono ?_; rintro e w4 ⟨rfl, h4⟩; have H4 := Lib.hid (below_then H3.out h4); clear h4)
    go_ret
    exact ⟨rfl, H4.out⟩
end Go.Proofs.Ythaombggdchgbaa.Graph
