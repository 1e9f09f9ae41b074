/- What the program's assembler does (given here as a premise); the law's live. -/
import Derived.Test.YtbbfjlheaaalkaaDoorQd
import Derived.Test.YtbbfjlheaaalkaaDoorEl
import Derived.Deep.RegionHeld3
namespace Go.Proofs.YtbbfjlheaaalkaaDoor.Relax
open Go.RowKit Go.Proofs.YtbbfjlheaaalkaaDoor.Enc Go.Proofs.YtbbfjlheaaalkaaDoor.Graph

def AsmPost (l : List PL) (w : World) (e : Ending) (w' : World) : Prop :=
  ∃ a line er, asmP l = (a, line, er) ∧ ∃ vw vk vp, e = .returned (.tuple #[asmV a vw vk vp, .int .i64 line, .int .i64 er]) ∧ AsmR w' a vw vk vp ∧ Below w.heap.size w w'
/-- How long a list may be. -/
def SmL (l : List PL) : Prop := l.length ≤ 100000000000000 ∧ ∀ x ∈ l, x.list.length ≤ 100000000000000
structure DoesAsm : Prop where
  asm : ∀ (l : List PL) (v : Value) (w : World), LinesR w v l → SmL l → FormsAt w → Calls Tryd.prog 7 #[v] w (AsmPost l w)
theorem DoesAsm.at_ (D : DoesAsm) {l : List PL} {a : Asm} {line er : Int} (ha : asmP l = (a, line, er)) (v : Value) (w : World) (h : LinesR w v l) (hs : SmL l) (hF : FormsAt w) :
    Calls Tryd.prog 7 #[v] w fun e w' => ∃ pw cw pk ck pp cp, e = .returned (.tuple #[.agg #[.slice pw a.words.length cw, .slice pk a.kinds.length ck, .slice pp a.places.length cp, .int .i64 a.rounds], .int .i64 line, .int .i64 er]) ∧
      AsmR w' a (.slice pw a.words.length cw) (.slice pk a.kinds.length ck) (.slice pp a.places.length cp) ∧ Below w.heap.size w w' :=
  (D.asm l v w h hs hF).mono fun e w' ⟨a', line', er', h1, vw, vk, vp, h2, h3, h4⟩ => by
    rw [ha] at h1
    simp only [Prod.mk.injEq] at h1
    obtain ⟨rfl, rfl, rfl⟩ := h1
    obtain ⟨pw, cw, rfl⟩ := h3.words.form
    obtain ⟨pk, ck, rfl⟩ := h3.kinds.form
    obtain ⟨pp, cp, rfl⟩ := h3.places.form
    exact ⟨pw, cw, pk, ck, pp, cp, h2, h3, h4⟩
def liveL : List PL := [⟨0, 0, 0, 0, 0, 7, []⟩, ⟨44, 0, 0, 0, 0, 0, []⟩, ⟨40, 0, 0, 0, 0, 7, []⟩]
def liveA : Asm := ⟨[738197504, 671154174], [1, 1], [0, 0, 1], 1⟩
theorem live_asm : asmP liveL = (liveA, 0, 0) := by decide
def liveCs : Array Value := #[.int .i64 0, .int .i64 0, .int .i64 0, .int .i64 0, .int .u32 0, .int .i64 7, .slice none 0 0, .int .i64 44, .int .i64 0, .int .i64 0, .int .i64 0, .int .u32 0, .int .i64 0, .slice none 0 0, .int .i64 40, .int .i64 0, .int .i64 0, .int .i64 0, .int .u32 0, .int .i64 7, .slice none 0 0]
theorem cell_of_block {w : World} {b : Nat} {cs : Array Value} {t : TypeId} (h : w.heap[b]? = some (.cells cs t (0, 0))) {k : Nat} {v : Value} (hk : cs[k]? = some v) : w.cell? ⟨b, k, none⟩ = some v := by
  simp [World.cell?, h, hk]
theorem live_lines (w : World) (t : TypeId) : LinesR (w.alloc (.cells liveCs t)) (.slice (some ⟨w.heap.size, 0, none⟩) 3 3) liveL := by
  have hc : ∀ k v, liveCs[k]? = some v → (w.alloc (.cells liveCs t)).cell? ⟨w.heap.size, k, none⟩ = some v := fun k v hv => cell_of_block (heap_alloc_new w _) hv
  have hnil : IntsR (w.alloc (.cells liveCs t)) (.slice none 0 0) [] := .inl ⟨rfl, none, 0, rfl⟩
  refine .inr ⟨w.heap.size, 0, 3, rfl, by decide, ⟨by decide, by decide⟩, by simp, fun i hi x hx => ⟨.slice none 0 0, ?_⟩⟩
  have h3 : i = 0 ∨ i = 1 ∨ i = 2 := by have : liveL.length = 3 := rfl; omega
  rcases h3 with rfl | rfl | rfl
  all_goals
    injection hx with hx
    subst hx
    exact ⟨hc _ _ rfl, hc _ _ rfl, hc _ _ rfl, hc _ _ rfl, hc _ _ rfl, hc _ _ rfl, hc _ _ rfl, hnil⟩
/-- The literal answer, in three new rows. -/
theorem live_rows (w : World) (o : Obj) (t1 t2 t3 : TypeId) :
    AsmR ((((w.alloc o).alloc (.cells #[.int .u32 738197504, .int .u32 671154174] t1)).alloc (.cells #[.int .i64 1, .int .i64 1] t2)).alloc (.cells #[.int .i64 0, .int .i64 0, .int .i64 1] t3)) liveA
      (.slice (some ⟨w.heap.size + 1, 0, none⟩) 2 2) (.slice (some ⟨w.heap.size + 1 + 1, 0, none⟩) 2 2) (.slice (some ⟨w.heap.size + 1 + 1 + 1, 0, none⟩) 3 3) := by
  have b1 : ((w.alloc o).alloc (.cells #[.int .u32 738197504, .int .u32 671154174] t1)).heap[w.heap.size + 1]? = some (.cells #[.int .u32 738197504, .int .u32 671154174] t1 (0, 0)) := by
    have := heap_alloc_new (w.alloc o) (.cells #[.int .u32 738197504, .int .u32 671154174] t1); rwa [World.size_alloc] at this
  have b2 : (((w.alloc o).alloc (.cells #[.int .u32 738197504, .int .u32 671154174] t1)).alloc (.cells #[.int .i64 1, .int .i64 1] t2)).heap[w.heap.size + 1 + 1]? = some (.cells #[.int .i64 1, .int .i64 1] t2 (0, 0)) := by
    have := heap_alloc_new ((w.alloc o).alloc (.cells #[.int .u32 738197504, .int .u32 671154174] t1)) (.cells #[.int .i64 1, .int .i64 1] t2); rwa [World.size_alloc, World.size_alloc] at this
  have b3 : ((((w.alloc o).alloc (.cells #[.int .u32 738197504, .int .u32 671154174] t1)).alloc (.cells #[.int .i64 1, .int .i64 1] t2)).alloc (.cells #[.int .i64 0, .int .i64 0, .int .i64 1] t3)).heap[w.heap.size + 1 + 1 + 1]? = some (.cells #[.int .i64 0, .int .i64 0, .int .i64 1] t3 (0, 0)) := by
    have := heap_alloc_new (((w.alloc o).alloc (.cells #[.int .u32 738197504, .int .u32 671154174] t1)).alloc (.cells #[.int .i64 1, .int .i64 1] t2)) (.cells #[.int .i64 0, .int .i64 0, .int .i64 1] t3); rwa [World.size_alloc, World.size_alloc, World.size_alloc] at this
  have b2' := (Below.heap_alloc _ (.cells #[.int .i64 0, .int .i64 0, .int .i64 1] t3) _ (lt_of_block b2)).trans b2
  have b1' := (Below.heap_alloc _ (.cells #[.int .i64 0, .int .i64 0, .int .i64 1] t3) _ (by have := lt_of_block b1; simp <;> omega)).trans ((Below.heap_alloc _ (.cells #[.int .i64 1, .int .i64 1] t2) _ (lt_of_block b1)).trans b1)
  refine ⟨.inr ⟨w.heap.size + 1, 0, 2, rfl, by decide, ⟨by decide, by decide⟩, by simp <;> omega, fun i hi x hx => ?_⟩, .inr ⟨w.heap.size + 1 + 1, 0, 2, rfl, by decide, ⟨by decide, by decide⟩, by simp, fun i hi x hx => ?_⟩, .inr ⟨w.heap.size + 1 + 1 + 1, 0, 3, rfl, by decide, ⟨by decide, by decide⟩, by simp, fun i hi x hx => ?_⟩⟩
  · have h2 : i = 0 ∨ i = 1 := by have : liveA.words.length = 2 := rfl; omega
    rcases h2 with rfl | rfl <;> (injection hx with hx; subst hx; exact cell_of_block b1' rfl)
  · have h2 : i = 0 ∨ i = 1 := by have : liveA.kinds.length = 2 := rfl; omega
    rcases h2 with rfl | rfl <;> (injection hx with hx; subst hx; exact cell_of_block b2' rfl)
  · have h2 : i = 0 ∨ i = 1 ∨ i = 2 := by have : liveA.places.length = 3 := rfl; omega
    rcases h2 with rfl | rfl | rfl <;> (injection hx with hx; subst hx; exact cell_of_block b3 rfl)
set_option maxHeartbeats 4000000 in
set_option maxRecDepth 100000 in
theorem live_any (D : DoesAsm) (w : World) (hF : FormsAt w) : Calls Tryd.prog 9 #[] w (Is (.bool true) w) := by
  have HA := Lib.hid (D.at_ live_asm (.slice (some ⟨w.heap.size, 0, none⟩) 3 3) (w.alloc (.cells liveCs 39)) (live_lines w _) ⟨by decide, fun x hx => by unfold liveL at hx; simp at hx; rcases hx with rfl | rfl | rfl <;> decide⟩ (hF.alloc _))
  have HS := Lib.hid (same_any liveA)
  clear D
  unfold liveCs at HA
  go_enter Tryd.func9, Tryd.ntmps9
  go_wp2_with (first
    | (go_at_call 7; refine HA.out.mono ?_; rintro e w2 ⟨pw, cw, pk, ck, pp, cp, rfl, hr, hb⟩; have HR := Lib.hid hr; have H2 := Lib.hid hb; clear hr hb)
    | (go_at_call 10
       refine (HS.out _ _ _ _ _ _ _ (HR.out.below (((((Below.refl _ _).alloc (Nat.le_refl _) _).alloc (by simp) _).alloc (by simp; omega) _).alloc (by simp; omega) _)) (live_rows _ _ _ _ _)).mono ?_
       rintro e w3 ⟨rfl, hb3⟩; have H3 := Lib.hid hb3; clear hb3))
  go_ret
  exact ⟨rfl, bt (below_one w _) (bt H2.out (bt (((((Below.refl _ w2).alloc (Nat.le_refl _) _).alloc (by simp) _).alloc (by simp; omega) _).alloc (by simp; omega) _) H3.out))⟩
end Go.Proofs.YtbbfjlheaaalkaaDoor.Relax
