/- strings.Builder inside the machine: copyCheck, WriteByte, String. No condition. -/
import Derived.Test.YtjbiikbmbacjkaaDoorBd
import Derived.Lib.Builder
import Derived.Lib.UnsafeStr
import Derived.Lib.FrozenHead
namespace Go.Proofs.YtjbiikbmbacjkaaDoor.Emu
open Go.RowKit Go.Proofs.YtjbiikbmbacjkaaDoor.Enc Go.Proofs.YtjbiikbmbacjkaaDoor.Graph

theorem info_builder : (Tryd.prog.info? 63).map (fun i => i.size) = some 2 := by kernel_rfl
theorem lies_builder : liesAt Tryd.prog Tryd.prog.depth 67 (48 / Tryd.prog.cellsOf 67) 16 63 1 = true := by kernel_rfl
theorem shape_of {w : World} {b : Nat} {cs : Array Value} {t : TypeId} (h : w.heap[b]? = some (.cells cs t (0, 0))) : w.shape? b = some (t, cs.size) := by
  simp [World.shape?, h]
theorem info_byte : (Tryd.prog.info? 5).map (fun i => (i.zero, i.size, i.bytes)) = some (some (.int .u8 0), 1, 1) := by kernel_rfl
section
variable {x : Fz} {E : Env} {wk : Nat → Value} {w w' w1 w2 : World} {m : M} {ad buf back : Value} {pg : Nat → Option Nat}
set_option maxHeartbeats 2000000 in
set_option maxRecDepth 100000 in
theorem copyCheck_st (h : St x E wk w w' m ad buf back pg) :
    Calls Tryd.prog 103 #[.pointer (some ⟨x.bm, 16, none⟩)] w' fun e w2 => e = .returned (.tuple #[]) ∧ ∃ ad', St x E wk w w2 m ad' buf back pg := by
  obtain ⟨j, hj, hjs⟩ := Option.map_eq_some_iff.1 info_builder
  have h2 := h.ads
  have hlm := h.lm
  have hsh : w'.shape? x.bm = some (67, 48) := by
    obtain ⟨cs, k1, k2⟩ := h.mach
    rw [← k2.size]; exact shape_of k1
  obtain ⟨a8, f8⟩ := h.cell (k := 16) (by decide)
  change _ = some ad at a8
  have hS := Lib.hid h
  rcases h2 with rfl | rfl
  · have HJ := Lib.hid hj
    have HJS := Lib.hid hjs
    have HSH := Lib.hid hsh
    clear h hj hjs hsh
    go_enter Tryd.func103, Tryd.ntmps103
    go_wp2
    rw [Lib.run_to_unsafe w' ⟨x.bm, 16, none⟩ Tryd.underlying60 Tryd.underlying155 HJ.out (by rw [HJS.out]; decide) HSH.out (by show 16 < 48; decide)]
    simp only [Result.andThen]
    rw [Oper.upon_value]
    go_wp2
    rw [run_callFunc_extern Tryd.func114 (by kernel_rfl) (by kernel_rfl) (by kernel_rfl) (e := Extern.AbiNoEscape.same) (by kernel_rfl)]
    rw [Lib.run_noEscape]
    simp only [Result.andThen]
    rw [Oper.upon_value]
    go_wp2
    rw [Lib.run_from_unsafe w' ⟨x.bm, 16, none⟩ Tryd.underlying155 Tryd.underlying60 HJ.out HSH.out lies_builder]
    simp only [Result.andThen]
    rw [Oper.upon_value]
    go_wp2
    go_end0
    exact ⟨rfl, _, hS.out.setAd⟩
  · have HJ := Lib.hid hj
    clear h hj hjs hsh
    go_enter Tryd.func103, Tryd.ntmps103
    go_wp2
    rw [Lib.run_neq_ptr_same w' _ Tryd.underlying60 HJ.out]
    go_wp2
    go_end0
    exact ⟨rfl, _, hS.out⟩
/-- A row that the machine owns has grown; its cell is told. -/
theorem St.buf' (h : St x E wk w w1 m ad buf back pg) (hb : w1.grownBy w2 buf.ownBlock) {buf' : Value} {b : UInt8} (hn : w2.ownsRow x.N 5 1 buf' (m.bytes.length + 1) ((m.bytes.map fun b => .int .u8 b.toNat) ++ [.int .u8 b.toNat])) (hgn : ∀ g, buf'.ownBlock = some g → buf.ownBlock = some g ∨ w1.heap.size ≤ g) :
    St x E wk w (w2.setCell ⟨x.bm, 17, none⟩ buf') { m with bytes := m.bytes ++ [b] } ad buf' back pg := by
  obtain ⟨cs, k1, k2⟩ := h.mach
  obtain ⟨ls, k3, k4⟩ := h.list
  have hnb : ∀ b, b < x.N → some b ≠ buf.ownBlock := fun b hb e => by have := (h.bufR.lt b e.symm).1; omega
  have hz : x.Z ≤ w1.heap.size := Nat.le_trans h.ok.zb (Nat.le_of_lt h.lm)
  have hzN : x.Z ≤ x.N := Nat.le_trans h.ok.zb (Nat.le_of_lt h.ok.bn)
  have hsz := hb.size
  have hne : ∀ b, b ≠ x.bm → (w2.setCell ⟨x.bm, 17, none⟩ buf').heap[b]? = w2.heap[b]? := fun b hb => heap_setCell_other w2 ⟨x.bm, 17, none⟩ b buf' hb
  have hlt : ∀ g, buf'.ownBlock = some g → x.N ≤ g := fun g hg => (hn.lt g hg).1
  refine ⟨h.ok, (h.below.grown hb hz (fun k hk => Nat.le_trans hzN (h.bufR.lt k hk).1)).setCell (p := ⟨x.bm, 17, none⟩) h.ok.zb _, by simpa using Nat.le_trans h.size hsz, ⟨_, heap_setCell_same w2 x.bm 17 _ _ _ ((hb.block x.bm h.lm (hnb _ h.ok.bn)).trans k1), k2.put 17 _ rfl (fun j hj hn => by unfold cellOf Fz.mv; simp only [hn, if_false])⟩, h.words, h.wz,
    ⟨ls, (hne _ h.ok.bl.symm).trans ((hb.block x.lb h.llb (hnb _ h.ok.ln)).trans k3), k4⟩, ?_, ?_, ?_, h.ads, ?_, ?_, fun e => by simp at e, (hne _ h.ok.pb).trans ((hb.block x.pb h.lpb (hnb _ h.ok.pn)).trans h.box), h.pzb⟩
  · refine h.mem.same ((hne _ h.ok.bm.symm).trans (hb.block x.mm h.lmm (hnb _ h.ok.mn))) (fun i g hi hg => (hne g (h.pz i g hi hg).2.1).trans (hb.block g (h.mem.lt hi hg) (fun e => (h.pz i g hi hg).2.2.2.2 e.symm)))
  · refine own_same h.backR (fun b hb2 => (hne b (by have := (h.backR.lt b hb2).1; have := h.ok.bn; omega)).trans (hb.block b (h.backR.lt b hb2).2 (fun e => h.bb b hb2 e.symm)))
  · show World.ownsRow _ x.N _ 1 buf' (m.bytes ++ [b]).length ((m.bytes ++ [b]).map _)
    rw [List.length_append, List.map_append]
    exact own_same hn (fun b hb2 => hne b (by have := hlt b hb2; have := h.ok.bn; omega))
  · intro g hg hg2
    rcases hgn g hg2 with h1 | h1
    · exact h.bb g hg h1
    · have := (h.backR.lt g hg).2; omega
  · intro i g hi hg
    obtain ⟨p1, p2, p3, p4, p5⟩ := h.pz i g hi hg
    refine ⟨p1, p2, p3, p4, fun e => ?_⟩
    rcases hgn g e with h1 | h1
    · exact p5 h1
    · have := h.mem.lt hi hg; omega
set_option maxHeartbeats 4000000 in
set_option maxRecDepth 100000 in
theorem writeByte_st (h : St x E wk w w' m ad buf back pg) (hl : m.bytes.length ≤ 1073741824) (b : UInt8) :
    Calls Tryd.prog 77 #[.pointer (some ⟨x.bm, 16, none⟩), .int .u8 b.toNat] w' fun e w2 => e = .returned .nilIface ∧ ∃ ad' buf', St x E wk w w2 { m with bytes := m.bytes ++ [b] } ad' buf' back pg := by
  obtain ⟨i0, hi, hz0, hz1, hz2⟩ := info_parts info_byte
  have HI := Lib.hid (And.intro hi (And.intro hz0 (And.intro hz1 hz2)))
  have hS := Lib.hid h
  have HL := Lib.hid hl
  have hn0 : m.bytes.length + 1 ≤ maxLen := by unfold maxLen; omega
  have hn1 : (m.bytes.length + 1) * 1 ≤ 140737488355328 := by omega
  have HN := Lib.hid (And.intro hn0 hn1)
  clear h hi hz0 hz1 hz2 hl hn0 hn1
  go_enter Tryd.func77, Tryd.ntmps77
  go_wp2_with (first
    | (have hlater := hS1
       (refine wpList_append_lies _ (by rfl) _ _ 61 (by rfl) x.N 5 i0 _ 1 1 Tryd.underlying61 HI.out.1 HI.out.2.1 HI.out.2.2.1 HI.out.2.2.2 rfl (by omega) _ m.bytes.length _ (by rfl) (hS1.out.bufR.alloc _) ⟨w1.heap.size, 0, none⟩ 1 1 [.int .u8 b.toNat] (by rfl) rfl (by intro j u hj; match j, hj with | 0, hj => simp at hj; subst hj; simp [Addr.add]) (by simp [Value.oneCell']) (by omega) HN.out.1 HN.out.2 (by have := hS1.out.size; simp; omega) _ rfl ?_))
    | (go_at_call 103; refine (copyCheck_st hS.out).mono ?_; rintro e w1 ⟨rfl, ad1, h1⟩; have hS1 := Lib.hid h1; obtain ⟨a17, f17⟩ := h1.cell (k := 17) (by decide); change _ = some buf at a17; have hlm := h1.lm; clear h1))
  intro g cap w2 h1 h2 h3 h4
  have hgb : w1.grownBy w2 buf.ownBlock := ⟨h2.os, h2.tape, h2.output, by have := h2.size; simp at this; omega, fun j hj hne => by rw [h2.block j (by simp; omega) hne]; exact Below.heap_alloc _ _ _ hj⟩
  have hne : some x.bm ≠ buf.ownBlock := fun e => by
    have := (hS1.out.bufR.lt _ e.symm).1
    have := hS1.out.ok.bn
    omega
  have f17' : w2.frozen? ⟨x.bm, 17, none⟩ = false := by
    unfold World.frozen? at f17 ⊢
    rw [hgb.block x.bm hlm hne]; exact f17
  have a17' : w2.cell? ⟨x.bm, 17, none⟩ = some buf := by
    unfold World.cell? at a17 ⊢
    rw [hgb.block x.bm hlm hne]; exact a17
  have HG := Lib.hid (hS1.out.buf' hgb h1 (fun g' e => by
    have e : some g = some g' := e
    injection e with e
    subst e
    rcases h3 with h3 | h3
    · exact .inl h3
    · right; rw [h3]; simp))
  clear h1 h2 h3 hgb a17 f17 hlater hne
  go_wp2
  go_ret
  exact ⟨rfl, _, _, HG.out⟩
theorem freeze_heap {w : World} {a : Addr} {n b : Nat} (h : b ≠ a.block) : (w.freeze a n).heap[b]? = w.heap[b]? := by
  unfold World.freeze
  split
  · rfl
  · simp [Array.getElem?_modify, Ne.symm h]
set_option maxHeartbeats 2000000 in
set_option maxRecDepth 100000 in
theorem string_st (h : St x E wk w w' m ad buf back pg) (hl : m.bytes.length ≤ 1073741824) :
    Calls Tryd.prog 24 #[.pointer (some ⟨x.bm, 16, none⟩)] w' fun e w2 => e = .returned (.string ⟨m.bytes.toArray⟩) ∧ Below x.Z w w2 ∧ w2.heap[x.bm]? = w'.heap[x.bm]? := by
  by_cases hb0 : m.bytes = []
  · have c17 : w'.drew.cell? ⟨x.bm, 17, none⟩ = some (.slice none 0 0) := by rw [← h.nul hb0]; exact (h.cell (k := 17) (by decide)).1
    rw [hb0]
    have hSD : ∀ w : World, (Builtin.unsafeSliceData_ #[61] 87 #[.slice none 0 0]).run Tryd.prog w = .ok (.pointer none) w := fun w => Lib.run_unsafeSliceData_nil _ _ _ _ _
    have hUS : ∀ w : World, (Builtin.unsafeString_ #[87, 3] 9 #[.pointer none, .int .i64 0]).run Tryd.prog w = .ok (.string .empty) w := fun w => Lib.run_unsafeString_none _ _ _ _ _
    have hS := Lib.hid h
    clear h hb0 hl
    go_enter Tryd.func24, Tryd.ntmps24
    go_wp2
    go_region
    all_goals
      go_wp2
      go_ret
      exact ⟨rfl, hS.out.drew.below, rfl⟩
  · obtain ⟨g, cap, cur, hv, hNg, hbg, hnc, hcm, hcs, htake⟩ : ∃ g cap cur, buf = .slice (some ⟨g, 0, none⟩) m.bytes.length cap ∧ x.N ≤ g ∧ w'.heap[g]? = some (.cells cur 5 (0, 0)) ∧ m.bytes.length ≤ cap ∧ cap ≤ maxLen ∧ cur.size = cap * 1 ∧ cur.toList.take (m.bytes.length * 1) = m.bytes.map fun b => .int .u8 b.toNat := by
      rcases h.bufR.2 with ⟨_, hz⟩ | ⟨g, cap, cur, hv, r⟩
      · exact absurd (List.length_eq_zero_iff.1 hz) hb0
      · exact ⟨g, cap, cur, hv, r⟩
    have hn0 : 0 < m.bytes.length := List.length_pos_iff.2 hb0
    have c17 : w'.drew.cell? ⟨x.bm, 17, none⟩ = some buf := (h.cell (k := 17) (by decide)).1
    have hown' : w'.drew.ownsRow x.N 5 1 buf m.bytes.length (m.bytes.map fun b => .int .u8 b.toNat) := h.bufR
    rw [hv] at c17 hown'
    have hSD : (Builtin.unsafeSliceData_ #[61] 87 #[.slice (some ⟨g, 0, none⟩) m.bytes.length cap]).run Tryd.prog w'.drew = .ok (.pointer (some ⟨g, 0, none⟩)) w'.drew :=
      Lib.run_unsafeSliceData_row _ _ _ _ _ _ (by omega)
    have hUS : (Builtin.unsafeString_ #[87, 3] 9 #[.pointer (some ⟨g, 0, none⟩), .int .i64 m.bytes.length]).run Tryd.prog w'.drew = .ok (.string ⟨m.bytes.toArray⟩) (w'.drew.freeze ⟨g, 0, none⟩ m.bytes.length) := by
      refine Lib.run_unsafeString_row (w := w'.drew) 87 3 9 5 Tryd.underlying87 (by kernel_rfl) g cur.size (by have hg' : w'.drew.heap[g]? = some (.cells cur 5 (0, 0)) := hbg; simp [World.shape?, hg']) m.bytes hb0 (by omega) (by omega) ?_
      intro j y hy
      refine hown'.cells (g := g) rfl j (.int .u8 y.toNat) ?_
      rw [List.getElem?_map, hy]; rfl
    have hMg : x.bm ≠ g := by have := h.ok.bn; omega
    have hbl : Below x.Z w (w'.drew.freeze ⟨g, 0, none⟩ m.bytes.length) := Lib.below_freeze h.drew.below (p := ⟨g, 0, none⟩) (Nat.le_trans (Nat.le_trans h.ok.zb (Nat.le_of_lt h.ok.bn)) hNg) _
    have hfr : (w'.drew.freeze ⟨g, 0, none⟩ m.bytes.length).heap[x.bm]? = w'.heap[x.bm]? := freeze_heap hMg
    have HB := Lib.hid (And.intro hbl hfr)
    generalize m.bytes.toArray = arr at *
    generalize m.bytes.length = n at *
    clear h hown' hbg hcs htake hbl hfr hb0 hv
    go_enter Tryd.func24, Tryd.ntmps24
    go_wp2
    go_region
    all_goals
      go_wp2
      go_ret
      exact ⟨rfl, HB.out.1, HB.out.2⟩
end
end Go.Proofs.YtjbiikbmbacjkaaDoor.Emu
