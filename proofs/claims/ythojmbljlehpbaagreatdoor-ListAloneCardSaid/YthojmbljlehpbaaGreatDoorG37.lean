/- The law's live is true. No condition but what the package variables hold. -/
import Derived.Test.YthojmbljlehpbaaGreatDoorG36
namespace Go.Proofs.YthojmbljlehpbaaGreatDoor.Lists
open Go.RowKit Go.Proofs.YthojmbljlehpbaaGreatDoor.Relax Go.Proofs.YthojmbljlehpbaaGreatDoor.Graph
open Go.Lib hiding intOf
open Go.Proofs.YthojmbljlehpbaaGreatDoor.Enc hiding below_one bt ret_bool

def liveL : List PL := [⟨1, 3, 0, -2, 0, 0, []⟩, ⟨0, 0, 0, 0, 0, 7, []⟩]
def liveS : List UInt8 := [32, 82, 69, 84, 32, 59, 32, 115, 111, 10, 10, 74, 77, 80, 9, 76, 48]
def liveK : List PL := [⟨44, 0, 0, 0, 0, 0, []⟩, ⟨40, 0, 0, 0, 0, 0, []⟩]
theorem live_print : printP liveL = ([76, 73, 32, 82, 51, 32, 45, 50, 10, 76, 55, 58, 10], 0) := by decide +kernel
theorem live_parse : parseP liveS = (liveK, 0, 0) := by decide +kernel
def cs2 (x y : PL) : Array Value := #[.int .i64 x.op, .int .i64 x.a, .int .i64 x.b, .int .i64 x.imm, .int .u32 x.n, .int .i64 x.label, .slice none 0 0, .int .i64 y.op, .int .i64 y.a, .int .i64 y.b, .int .i64 y.imm, .int .u32 y.n, .int .i64 y.label, .slice none 0 0]
theorem lines_two {w : World} {q : Nat} {x y : PL} (h : w.heap[q]? = some (.cells (cs2 x y) 52 (0, 0))) (hx : x.list = []) (hy : y.list = []) : LinesR w (.slice (some ⟨q, 0, none⟩) 2 2) [x, y] := by
  refine .inr ⟨q, 0, 2, rfl, by simp, ⟨by simp, by omega⟩, (Array.getElem?_eq_some_iff.1 h).1, fun i hi z hz => ?_⟩
  have hi2 : i < 2 := hi
  rcases (show i = 0 ∨ i = 1 by omega) with rfl | rfl
  · injection hz with hz
    subst hz
    exact ⟨.slice none 0 0, cell_of_block h rfl, cell_of_block h rfl, cell_of_block h rfl, cell_of_block h rfl, cell_of_block h rfl, cell_of_block h rfl, cell_of_block h rfl, by rw [hx]; exact .inl ⟨rfl, none, 0, rfl⟩⟩
  · injection hz with hz
    subst hz
    exact ⟨.slice none 0 0, cell_of_block h rfl, cell_of_block h rfl, cell_of_block h rfl, cell_of_block h rfl, cell_of_block h rfl, cell_of_block h rfl, cell_of_block h rfl, by rw [hy]; exact .inl ⟨rfl, none, 0, rfl⟩⟩
set_option maxHeartbeats 16000000 in
set_option maxRecDepth 100000 in
theorem live_any (w : World) (hL : LaidL w) (h8 : 8 ≤ w.heap.size) :
    Calls Tryz.prog 15 #[] w fun e w' => e = .returned (.bool true) ∧ Below w.heap.size w w' := by
  have HP : Hid (Calls Tryz.prog 13 #[.slice (some ⟨w.heap.size, 0, none⟩) 2 2] (w.alloc (.cells #[.int .i64 1, .int .i64 3, .int .i64 0, .int .i64 (-2), .int .u32 0, .int .i64 0, .slice none 0 0, .int .i64 0, .int .i64 0, .int .i64 0, .int .i64 0, .int .u32 0, .int .i64 7, .slice none 0 0] 52)) fun e w' => e = .returned (.tuple #[.string ⟨#[76, 73, 32, 82, 51, 32, 45, 50, 10, 76, 55, 58, 10]⟩, .int .i64 0]) ∧ Below w.heap.size w w') := Lib.hid (by
    have h := print_any liveL _ _ (hL.below (below_one w (.cells (cs2 ⟨1, 3, 0, -2, 0, 0, []⟩ ⟨0, 0, 0, 0, 0, 7, []⟩) 52))) (lines_two (heap_alloc_new w _) rfl rfl) (by decide) (by decide)
    unfold PrintPost at h
    rw [live_print] at h
    exact h.mono (fun e w' hh => ⟨hh.1, bt (below_one w _) hh.2⟩))
  have HQ : Hid (∀ W, Below w.heap.size w W → Calls Tryz.prog 17 #[.string ⟨#[32, 82, 69, 84, 32, 59, 32, 115, 111, 10, 10, 74, 77, 80, 9, 76, 48]⟩] W fun e w' => ∃ p c, e = .returned (.tuple #[.slice p 2 c, .int .i64 0, .int .i64 0]) ∧ LinesR w' (.slice p 2 c) liveK ∧ Below w.heap.size w w') := Lib.hid (fun W hW => by
    have h := parse_any liveS W (hL.below hW) (Nat.le_trans h8 hW.size) (by decide)
    unfold ParsePost at h
    rw [live_parse] at h
    exact h.mono (fun e w' ⟨p, c, h1, h2, h3⟩ => ⟨p, c, h1, h2, bt hW h3⟩))
  have HS : Hid (∀ W p c, LinesR W (.slice p 2 c) liveK → Calls Tryz.prog 16 #[.slice p 2 c, .slice (some ⟨W.heap.size, 0, none⟩) 2 2] (W.alloc (.cells #[.int .i64 44, .int .i64 0, .int .i64 0, .int .i64 0, .int .u32 0, .int .i64 0, .slice none 0 0, .int .i64 40, .int .i64 0, .int .i64 0, .int .i64 0, .int .u32 0, .int .i64 0, .slice none 0 0] 52)) fun e w' => e = .returned (.bool true) ∧ Below W.heap.size W w') := Lib.hid (fun W p c hp => by
    have h := sameLines_any liveK p (some ⟨W.heap.size, 0, none⟩) c 2 (W.alloc (.cells (cs2 ⟨44, 0, 0, 0, 0, 0, []⟩ ⟨40, 0, 0, 0, 0, 0, []⟩) 52)) (hp.below (below_one W _)) (lines_two (heap_alloc_new W _) rfl rfl) (by decide) (by decide)
    exact h.mono (fun e w' hh => ⟨hh.1, bt (below_one W _) hh.2⟩))
  clear hL h8
  go_enter Tryz.func15, Tryz.ntmps15
  go_wp2_with (first
    | (go_at_call 13
       with_reducible refine HP.out.mono ?_
       rintro e w6 ⟨rfl, hb6⟩
       have HB6 := Lib.hid hb6
       clear hb6)
    | (go_at_call 17
       with_reducible refine (HQ.out _ HB6.out).mono ?_
       rintro e w7 ⟨p7, c7, rfl, hl7, hb7⟩
       have HL7 := Lib.hid hl7
       have HB7 := Lib.hid hb7
       clear hl7 hb7)
    | (go_at_call 16
       with_reducible refine (HS.out _ _ _ HL7.out).mono ?_
       rintro e w8 ⟨rfl, hb8⟩
       have HB8 := Lib.hid hb8
       clear hb8))
  go_ret
  exact ⟨rfl, bt HB7.out HB8.out⟩
end Go.Proofs.YthojmbljlehpbaaGreatDoor.Lists
