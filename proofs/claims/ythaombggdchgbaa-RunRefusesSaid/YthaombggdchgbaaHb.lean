/- The two modules of 'live': their end. -/
import Derived.Test.YthaombggdchgbaaHa
namespace Go.Proofs.Ythaombggdchgbaa.Graph
open Go.RowKit

abbrev retE : PEnd := ⟨5, 0, -1, 0, 0, 0, 0, [], []⟩
theorem endF_good (b o : Nat) (va vr : Value) (w : World) (h : EndR w b o retE va vr) (hb : b < w.heap.size) :
    Calls Try.prog 67 #[.pointer (some ⟨b, o, none⟩)] w (Is (zV (-1)) w) := endFields_any retE b o va vr w h hb
set_option maxHeartbeats 4000000 in
set_option maxRecDepth 100000 in
theorem end_good (cb : Nat) (pp ap bp : Option Addr) (np na nb pc ac bc : Nat) (b o : Nat) (va vr : Value) (w : World) (h : EndR w b o retE va vr) (hb : b < w.heap.size) :
    Calls Try.prog 36 #[.pointer (some ⟨cb, 0, none⟩), g0V pp ap bp np na nb pc ac bc, .pointer (some ⟨b, o, none⟩)] w (Is (.bool true) w) := by
  have HI := Lib.hid (fun (w' : World) (hw : Below w.heap.size w w') => h.below hb hw)
  have HK : Hid (∀ w, Calls Try.prog 68 #[.int .i64 5] w fun e w' => e = .returned (.int .i64 4) ∧ w' = w) := Lib.hid (fun w => endHas_any 5 w)
  have HO := Lib.hid only_good
  have HF := Lib.hid endF_good
  have c0 : w.cell? ⟨b, o, none⟩ = some (.int .i64 5) := h.kind
  clear h
  go_enter Try.func36, Try.ntmps36
  go_wp2_with (first
    | (go_at_call 67; refine (HF.out b o va vr _ (HI.out _ (below_alloc w _)) (Nat.lt_of_lt_of_le hb (below_alloc w _).size)).mono ?_; rintro e w2 ⟨rfl, h2⟩
       have B1 : Box4 w2 w.heap.size (.slice pp np pc) (.int .i64 0) (.slice ap na ac) (.slice bp nb bc) := Box4.below ⟨by go_simp, by go_simp, by go_simp, by go_simp, by go_simp⟩ h2
       have H2 := Lib.hid (below_then (below_alloc w _) h2); have HB1 := Lib.hid B1; clear h2 B1))
  have hsz : w2.heap.size < (w2.alloc (.cells #[.int .i64 0, .int .i64 0, .int .i64 (-1), .int .i64 0, .int .i64 0, .int .u32 0, .int .i64 0, .int .i64 0, .int .i64 0, .int .i64 0, .int .i64 0, .int .i64 0] 114)).heap.size := by rw [World.size_alloc]; omega
  have hd : (w2.alloc (.cells #[.int .i64 0, .int .i64 0, .int .i64 (-1), .int .i64 0, .int .i64 0, .int .u32 0, .int .i64 0, .int .i64 0, .int .i64 0, .int .i64 0, .int .i64 0, .int .i64 0] 114)).cell? ⟨b, o, none⟩ = some (.int .i64 5) := (HI.out _ (H2.out.alloc H2.out.size _)).kind
  have hl : b < (w2.alloc (.cells #[.int .i64 0, .int .i64 0, .int .i64 (-1), .int .i64 0, .int .i64 0, .int .u32 0, .int .i64 0, .int .i64 0, .int .i64 0, .int .i64 0, .int .i64 0, .int .i64 0] 114)).heap.size := Nat.lt_of_lt_of_le hb (H2.out.alloc H2.out.size _).size
  go_region_held3 (fun w' => w'.cell? ⟨w2.heap.size, 0, none⟩ = some (.int .i64 0) ∧ w'.cell? ⟨w2.heap.size, 1, none⟩ = some (.int .i64 0) ∧ w'.cell? ⟨w2.heap.size, 2, none⟩ = some (.int .i64 (-1)) ∧ w'.cell? ⟨w2.heap.size, 3, none⟩ = some (.int .i64 0) ∧ w'.cell? ⟨w2.heap.size, 4, none⟩ = some (.int .i64 0) ∧ w'.cell? ⟨w2.heap.size, 5, none⟩ = some (.int .u32 0) ∧ w'.cell? ⟨w2.heap.size, 6, none⟩ = some (.int .i64 0) ∧ w'.cell? ⟨w2.heap.size, 7, none⟩ = some (.int .i64 0) ∧ w'.cell? ⟨w2.heap.size, 8, none⟩ = some (.int .i64 0) ∧ w'.cell? ⟨w2.heap.size, 9, none⟩ = some (.int .i64 0) ∧ w'.cell? ⟨w2.heap.size, 10, none⟩ = some (.int .i64 0) ∧ w'.cell? ⟨w2.heap.size, 11, none⟩ = some (.int .i64 0) ∧ w'.cell? ⟨b, o, none⟩ = some (.int .i64 5))
    (first
      | go_keep
      | (refine ⟨?_, ?_, ?_, ?_, ?_, ?_, ?_, ?_, ?_, ?_, ?_, ?_, ?_⟩ <;> (rw [hb3.cell (by first | exact hl | exact hsz)]; first | exact hd | simp [World.cell?_alloc_new])))
    (first
      | (go_at_call 68; refine (HK.out _).mono ?_; rintro e w4 ⟨rfl, rfl⟩)
      | (go_at_call 64; refine (HO.out _).mono ?_; rintro e w3 ⟨rfl, hb3⟩))
  all_goals
    have h3 : Below w2.heap.size w2 w3 := (below_alloc w2 _).drew.trans (hb3.mono (by simp [World.size_alloc]))
    have H3 := Lib.hid (below_then H2.out h3)
    have HB3 := Lib.hid (HB1.out.below h3)
    clear hb3 h3 hsz hd hl
    have hi := HI.out w3 H3.out
    have l3 : b < w3.heap.size := Nat.lt_of_lt_of_le hb H3.out.size
    have d0 := hi.kind
    have d1 := hi.fa
    obtain ⟨y0, y1, y2, y3, y4⟩ := HB3.out
    clear hi
    go_wp2
    go_quiet (fail)
    go_wp2
    go_ret
    exact ⟨rfl, below_drew H3.out nq⟩
end Go.Proofs.Ythaombggdchgbaa.Graph
