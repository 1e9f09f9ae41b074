/- The writer of words, as it lies; what a call may turn; a word written. No condition. -/
import Derived.Test.YtmnhafncdblklaaDoorAr
import Derived.Deep.AppendLies
namespace Go.Proofs.YtmnhafncdblklaaDoor.Relax
open Go.RowKit Go.Proofs.YtmnhafncdblklaaDoor.Enc Go.Proofs.YtmnhafncdblklaaDoor.Graph

/-- One cell appended to a row of one's own: where the row lies then. -/
theorem wpList_append_cell {w : World} {ops : Array Oper} {rest : List Oper} {o : Oper} {a : Act} {Q : Exit → Act → World → Prop} (hgd : o.guard = none) (s x : Operand) (t e : TypeId) (z : Value) (by_ : Nat)
    (ho : o.op = .call { callee := .builtin .append, args := #[s, x], argTypes := #[t, t] }) (ht : Tryd.prog.underlying t = some (.slice e)) (hinfo : (Tryd.prog.info? e).map (fun i => (i.zero, i.size, i.bytes)) = some (some z, 1, by_)) (hz : z.cells.size = 1) (hby : 1 ≤ by_ ∧ by_ ≤ 8)
    (B : Nat) (v : Value) (n : Nat) (ys : List Value) (hs : a.eval s = v) (hown : w.ownsRow B e 1 v n ys) (hB : B ≤ w.heap.size) (u : Value) (h1 : u.oneCell' = true) (b c : Nat) (hx : a.eval x = .slice (some ⟨b, 0, none⟩) 1 c) (hnews : w.cell? ⟨b, 0, none⟩ = some u) (hn : n ≤ 1000000)
    (h : ∀ g cap w', w'.ownsRow B e 1 (.slice (some ⟨g, 0, none⟩) (n + 1) cap) (n + 1) (ys ++ [u]) → w.grownBy w' v.ownBlock → (v.ownBlock = some g ∨ g = w.heap.size) → wpList Tryd.prog ops Q rest (a.put o.dst (.slice (some ⟨g, 0, none⟩) (n + 1) cap)) w') : wpList Tryd.prog ops Q (o :: rest) a w := by
  obtain ⟨i0, HI, hz0, hz1, hz2⟩ := info_parts hinfo
  have hm : (n + 1) * by_ ≤ (n + 1) * 8 := Nat.mul_le_mul_left _ hby.2
  refine wpList_append_lies w hgd s x t ho B e i0 z 1 by_ ht HI hz0 hz1 hz2 hz (by omega) v n ys hs hown ⟨b, 0, none⟩ 1 c [u] hx rfl (one_news hnews) (fun y hy => by rw [List.mem_singleton.1 hy]; exact h1) (by omega) (by unfold maxLen; omega) (by omega) hB _ rfl ?_
  intro g cap w' h5 h6 h7 _
  exact h g cap w' h5 h6 h7
theorem info_wordA : (Tryd.prog.info? 43).map (fun i => (i.zero, i.size, i.bytes)) = some (some (.int .u32 0), 1, 4) := by kernel_rfl
/-- What a call on a writer may turn: blocks of G; the writer's blocks behind it, G', are those or new. -/
structure WK (w w' : World) (G G' : Nat → Prop) : Prop where
  os : w'.os = w.os
  tape : w'.tape = w.tape
  output : w'.output = w.output
  size : w.heap.size ≤ w'.heap.size
  keep : ∀ b, b < w.heap.size → ¬ G b → w'.heap[b]? = w.heap[b]?
  new : ∀ b, G' b → G b ∨ w.heap.size ≤ b
theorem WK.refl (w : World) (G : Nat → Prop) : WK w w G G := ⟨rfl, rfl, rfl, Nat.le_refl _, fun _ _ _ => rfl, fun _ h => .inl h⟩
theorem WK.trans {a b c : World} {G G' G'' : Nat → Prop} (h : WK a b G G') (k : WK b c G' G'') : WK a c G G'' :=
  ⟨k.os.trans h.os, k.tape.trans h.tape, k.output.trans h.output, Nat.le_trans h.size k.size, fun i hi hg => (k.keep i (Nat.lt_of_lt_of_le hi h.size) (fun hg' => (h.new i hg').elim hg (fun h2 => by omega))).trans (h.keep i hi hg),
    fun i hi => (k.new i hi).elim (fun h2 => h.new i h2) (fun h2 => .inr (Nat.le_trans h.size h2))⟩
theorem WK.of_below {w w' : World} (G : Nat → Prop) (h : Below w.heap.size w w') : WK w w' G G := ⟨h.os, h.tape, h.output, h.size, fun b hb _ => h.block b hb, fun _ h => .inl h⟩
theorem WK.below {w w' : World} {G G' : Nat → Prop} {Z : Nat} (h : WK w w' G G') (hg : ∀ b, G b → Z ≤ b) (hz : Z ≤ w.heap.size) : Below Z w w' :=
  ⟨h.os, h.tape, h.output, h.size, fun b hb => h.keep b (Nat.lt_of_lt_of_le hb hz) (fun hgb => by have := hg b hgb; omega)⟩
theorem WK.cell {w w' : World} {G G' : Nat → Prop} (h : WK w w' G G') {b o : Nat} {v : Value} (hb : b < w.heap.size) (hg : ¬ G b) (hc : w.cell? ⟨b, o, none⟩ = some v) : w'.cell? ⟨b, o, none⟩ = some v :=
  (World.cell?_of_block (w := w) (a := ⟨b, o, none⟩) (h.keep b hb hg)).trans hc
/-- A writer: its struct in block bw, its two rows; G tells their blocks. -/
structure WrR (w : World) (Z bm sb N bw : Nat) (G : Nat → Prop) (vw vk : Value) (ws : List (Int × Int)) : Prop where
  st : w.heap[bw]? = some (.cells #[.map (some bm), .slice (some ⟨sb, 0, none⟩) N N, vw, vk] 73 (0, 0))
  words : w.ownsRow Z 43 1 vw ws.length (ws.map fun p => .int .u32 p.1)
  kinds : w.ownsRow Z 3 1 vk ws.length (ws.map fun p => .int .i64 p.2)
  wk : ∀ b, vw.ownBlock = some b → vk.ownBlock ≠ some b
  ww : vw.ownBlock ≠ some bw
  kw : vk.ownBlock ≠ some bw
  g : ∀ b, G b ↔ b = bw ∨ vw.ownBlock = some b ∨ vk.ownBlock = some b
  z : Z ≤ bw
theorem WrR.lt {w : World} {Z bm sb N bw : Nat} {G : Nat → Prop} {vw vk : Value} {ws : List (Int × Int)} (h : WrR w Z bm sb N bw G vw vk ws) {b : Nat} (hb : G b) : Z ≤ b ∧ b < w.heap.size := by
  rcases (h.g b).1 hb with rfl | h1 | h1
  · exact ⟨h.z, lt_of_block h.st⟩
  · exact h.words.lt b h1
  · exact h.kinds.lt b h1
theorem own_keep {w w' : World} {B : Nat} {e : TypeId} {v : Value} {n : Nat} {ys : List Value} (h : w.ownsRow B e 1 v n ys) (hk : ∀ b, v.ownBlock = some b → w'.heap[b]? = w.heap[b]?) : w'.ownsRow B e 1 v n ys := by
  obtain ⟨k1, k2 | ⟨g, cap, cur, rfl, k3, k4, k5⟩⟩ := h
  · exact ⟨k1, .inl k2⟩
  · exact ⟨k1, .inr ⟨g, cap, cur, rfl, k3, (hk g rfl).trans k4, k5⟩⟩
/-- Nothing of a writer is turned by what makes memory alone. -/
theorem WrR.below {w w' : World} {Z bm sb N bw : Nat} {G : Nat → Prop} {vw vk : Value} {ws : List (Int × Int)} (h : WrR w Z bm sb N bw G vw vk ws) (hb : Below w.heap.size w w') : WrR w' Z bm sb N bw G vw vk ws :=
  ⟨(hb.block bw (lt_of_block h.st)).trans h.st, own_keep h.words (fun b hb2 => hb.block b (h.words.lt b hb2).2), own_keep h.kinds (fun b hb2 => hb.block b (h.kinds.lt b hb2).2), h.wk, h.ww, h.kw, h.g, h.z⟩
def PutPost (Z bm sb N bw : Nat) (G : Nat → Prop) (ws : List (Int × Int)) (w : World) (e : Ending) (w' : World) : Prop :=
  e = .returned (.tuple #[]) ∧ ∃ G' vw vk, WrR w' Z bm sb N bw G' vw vk ws ∧ WK w w' G G'
set_option maxHeartbeats 4000000 in
set_option maxRecDepth 100000 in
theorem put_prog (Z bm sb N bw : Nat) (G : Nat → Prop) (vw vk : Value) (ws : List (Int × Int)) (kind word : Int) (w : World) (h : WrR w Z bm sb N bw G vw vk ws) (hl : ws.length ≤ 100000) (hZ : Z ≤ w.heap.size) :
    Calls Tryd.prog 54 #[.pointer (some ⟨bw, 0, none⟩), .int .i64 kind, .int .u32 word] w (PutPost Z bm sb N bw G (ws ++ [(word, kind)]) w) := by
  have HW := Lib.hid h
  obtain ⟨⟨_, _, c2, c3⟩, _, _, f2, f3⟩ := four h.st
  have hlt := lt_of_block h.st
  clear h
  go_enter Tryd.func54, Tryd.ntmps54
  go_upto_region 1 with (at_builtin; refine wpList_append_cell rfl (.tmp 10) (.tmp 12) 24 43 (.int .u32 0) 4 rfl Tryd.underlying24 info_wordA rfl (by omega) Z vw ws.length (ws.map fun p => .int .u32 p.1) rfl (HW.out.words.alloc _) (by simp; omega) (.int .u32 word) rfl w.heap.size 1 rfl (by go_simp) (by omega) ?_
                         intro g1 cap1 w1 h1 h2 h3
                         have hs1 := (h2.block bw (by simp; omega) (fun e => HW.out.ww e.symm)).trans ((Below.heap_alloc w _ _ hlt).trans HW.out.st)
                         obtain ⟨⟨_, _, d2, d3⟩, _, _, e2, e3⟩ := four hs1
                         have hl1 := lt_of_block hs1
                         have H1 := Lib.hid h1; have H2 := Lib.hid h2; have H3 := Lib.hid h3; have HS1 := Lib.hid hs1; clear h1 h2 h3 hs1)
  have HS2 := Lib.hid (heap_setCell_same _ bw 2 _ _ (.slice (some ⟨g1, 0, none⟩) (ws.length + 1) cap1) HS1.out)
  have hs2 := HS2.out
  have HK2 := Lib.hid (show (w1.setCell ⟨bw, 2, none⟩ (.slice (some ⟨g1, 0, none⟩) (ws.length + 1) cap1)).ownsRow Z 3 1 vk ws.length (ws.map fun p => .int .i64 p.2) from own_keep HW.out.kinds (fun b hb => by
    have hbl := (HW.out.kinds.lt b hb).2
    have hbw : b ≠ bw := fun e => HW.out.kw (by rw [hb, e])
    rw [Below.heap_setCell _ _ _ _ hbw, H2.out.block b (by simp; omega) (fun e => HW.out.wk b e.symm hb), Below.heap_alloc _ _ _ hbl]))
  have HWR := Lib.hid (show (w1.setCell ⟨bw, 2, none⟩ (.slice (some ⟨g1, 0, none⟩) (ws.length + 1) cap1)).ownsRow Z 43 1 (.slice (some ⟨g1, 0, none⟩) (ws.length + 1) cap1) (ws.length + 1) ((ws.map fun p => .int .u32 p.1) ++ [.int .u32 word]) from own_keep H1.out (fun b hb => by
    have e : some g1 = some b := hb
    injection e with e
    subst e
    have hbw : g1 ≠ bw := fun e => by
      rcases H3.out with h | h
      · exact HW.out.ww (by rw [h, e])
      · simp at h; omega
    rw [Below.heap_setCell _ _ _ _ hbw]))
  have HK1 := Lib.hid (show WK w (w1.setCell ⟨bw, 2, none⟩ (.slice (some ⟨g1, 0, none⟩) (ws.length + 1) cap1)) G (fun b => b = bw ∨ b = g1 ∨ vk.ownBlock = some b) from by
    have hsz := H2.out.size
    refine ⟨H2.out.os, H2.out.tape, H2.out.output, by simp at hsz ⊢; omega, fun b hb hg => ?_, fun b hb => ?_⟩
    · rw [HW.out.g b] at hg
      rw [Below.heap_setCell _ _ _ _ (fun e => hg (.inl e)), H2.out.block b (by simp; omega) (fun e => hg (.inr (.inl e.symm))), Below.heap_alloc _ _ _ hb]
    · rw [HW.out.g b]
      rcases hb with h | h | h
      · exact .inl (.inl h)
      · subst h
        rcases H3.out with h | h
        · exact .inl (.inr (.inl h))
        · right; simp at h; omega
      · exact .inl (.inr (.inr h)))
  have hg1 := HWR.out.lt g1 rfl
  have hzz := HK1.out.size
  clear c2 c3 f2 f3 d2 d3 e2 e3
  obtain ⟨⟨_, _, c2, c3⟩, _, _, f2, f3⟩ := four hs2
  have hlt2 := lt_of_block hs2
  clear hs2
  generalize w1.setCell ⟨bw, 2, none⟩ (.slice (some ⟨g1, 0, none⟩) (ws.length + 1) cap1) = W at *
  go_wp2_with (at_builtin; refine wpList_append_cell rfl (.tmp 20) (.tmp 22) 25 3 (.int .i64 0) 8 rfl Tryd.underlying25 info_intA rfl (by omega) Z vk ws.length (ws.map fun p => .int .i64 p.2) rfl (HK2.out.alloc _) (by simp; omega) (.int .i64 kind) rfl W.heap.size 1 rfl (by go_simp) (by omega) ?_
               intro g2 cap2 w2 h1 h2 h3
               have hs1 := (h2.block bw (by simp; omega) (fun e => HW.out.kw e.symm)).trans ((Below.heap_alloc W _ _ hlt2).trans HS2.out)
               obtain ⟨⟨_, _, d2, d3⟩, _, _, e2, e3⟩ := four hs1
               have hl2 := lt_of_block hs1
               have J1 := Lib.hid h1; have J2 := Lib.hid h2; have J3 := Lib.hid h3; have JS1 := Lib.hid hs1; clear h1 h2 h3 hs1)
  have hs3 := heap_setCell_same _ bw 3 _ _ (.slice (some ⟨g2, 0, none⟩) (ws.length + 1) cap2) JS1.out
  have e1 : (ws ++ [(word, kind)]).length = ws.length + 1 := by simp
  have e2 : (ws ++ [(word, kind)]).map (fun p => Value.int .u32 p.1) = (ws.map fun p => .int .u32 p.1) ++ [.int .u32 word] := by simp
  have e3 : (ws ++ [(word, kind)]).map (fun p => Value.int .i64 p.2) = (ws.map fun p => .int .i64 p.2) ++ [.int .i64 kind] := by simp
  have hg2bw : g2 ≠ bw := fun e => by
    rcases J3.out with h | h
    · exact HW.out.kw (by rw [h, e])
    · simp at h; omega
  have hg1bw : g1 ≠ bw := fun e => by
    rcases H3.out with h | h
    · exact HW.out.ww (by rw [h, e])
    · simp at h; omega
  have hg1k : vk.ownBlock ≠ some g1 := fun e => by
    rcases H3.out with h | h
    · exact HW.out.wk g1 h e
    · have := (HW.out.kinds.lt g1 e).2; simp at h; omega
  have hg12 : g1 ≠ g2 := fun e => by
    rcases J3.out with h | h
    · exact hg1k (by rw [h, e])
    · simp at h; omega
  have hJs := J2.out.size
  go_end0
  refine ⟨rfl, (fun b => b = bw ∨ b = g1 ∨ b = g2), .slice (some ⟨g1, 0, none⟩) (ws.length + 1) cap1, .slice (some ⟨g2, 0, none⟩) (ws.length + 1) cap2, ⟨hs3, ?_, ?_, ?_, ?_, ?_, ?_, HW.out.z⟩, ?_⟩
  · rw [e1, e2]
    refine own_keep HWR.out (fun b hb => ?_)
    have e : some g1 = some b := hb
    injection e with e
    subst e
    rw [Below.heap_setCell _ _ _ _ hg1bw, J2.out.block g1 (by simp; omega) (fun e => hg1k e.symm), Below.heap_alloc _ _ _ hg1.2]
  · rw [e1, e3]
    refine own_keep J1.out (fun b hb => ?_)
    have e : some g2 = some b := hb
    injection e with e
    subst e
    rw [Below.heap_setCell _ _ _ _ hg2bw]
  · intro b hb hb2
    have e : some g1 = some b := hb
    have e' : some g2 = some b := hb2
    injection e with e
    injection e' with e'
    omega
  · exact fun e => hg1bw (by injection e)
  · exact fun e => hg2bw (by injection e)
  · intro b
    refine ⟨?_, ?_⟩
    · rintro (h | h | h)
      · exact .inl h
      · exact .inr (.inl (by rw [h]; rfl))
      · exact .inr (.inr (by rw [h]; rfl))
    · rintro (h | h | h)
      · exact .inl h
      · have e : some g1 = some b := h
        injection e with e; exact .inr (.inl e.symm)
      · have e : some g2 = some b := h
        injection e with e; exact .inr (.inr e.symm)
  · refine HK1.out.trans ⟨J2.out.os, J2.out.tape, J2.out.output, by simp at hJs ⊢; omega, fun b hb hg => ?_, fun b hb => ?_⟩
    · rw [Below.heap_setCell _ _ _ _ (fun e => hg (.inl e)), J2.out.block b (by simp; omega) (fun e => hg (.inr (.inr e.symm))), Below.heap_alloc _ _ _ hb]
    · rcases hb with h | h | h
      · exact .inl (.inl h)
      · exact .inl (.inr (.inl h))
      · subst h
        rcases J3.out with h | h
        · exact .inl (.inr (.inr h))
        · right; simp at h; omega
end Go.Proofs.YtmnhafncdblklaaDoor.Relax
