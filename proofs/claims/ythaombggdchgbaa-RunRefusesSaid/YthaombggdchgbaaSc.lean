/- strings.Builder inside the machine: copyCheck and WriteByte; the machine's getc. -/
import Derived.Test.YthaombggdchgbaaSb
import Derived.Lib.Builder
import Derived.Lib.UnsafeStr
import Derived.Lib.FrozenHead
namespace Go.Proofs.Ythaombggdchgbaa.Graph
open Go.RowKit

theorem info_builder : (Try.prog.info? 73).map (fun i => i.size) = some 2 := by kernel_rfl
theorem lies_builder : liesAt Try.prog Try.prog.depth 77 (16 / Try.prog.cellsOf 77) 8 73 1 = true := by kernel_rfl
theorem shape_of {w : World} {b : Nat} {cs : Array Value} {t : TypeId} (h : w.heap[b]? = some (.cells cs t (0, 0))) : w.shape? b = some (t, cs.size) := by
  simp [World.shape?, h]
set_option maxHeartbeats 2000000 in
set_option maxRecDepth 100000 in
theorem copyCheck_st {x : Fx} {w wr : World} {rd v : Int} {n : Nat} {steps at_ stop : Int} (h : St x w rd v n steps at_ stop wr) :
    Calls Try.prog 109 #[.pointer (some ⟨x.M, 8, none⟩)] wr fun e w' => e = .returned (.tuple #[]) ∧ St x w rd v n steps at_ stop w' := by
  obtain ⟨j, hj, hjs⟩ := Option.map_eq_some_iff.1 info_builder
  obtain ⟨ad, bp, bc, h1, h2, _⟩ := h.mach
  have hlm := h.lm
  have hS := Lib.hid h
  have hsh : wr.shape? x.M = some (77, 16) := shape_of h1
  obtain ⟨a8, f8⟩ := cell_of_block h1 (k := 8) (v := ad) rfl
  rcases h2 with rfl | rfl
  · have HJ := Lib.hid hj
    have HJS := Lib.hid hjs
    have HSH := Lib.hid hsh
    clear h h1 hj hjs hsh
    go_enter Try.func109, Try.ntmps109
    go_wp2
    rw [Lib.run_to_unsafe wr ⟨x.M, 8, none⟩ Try.underlying71 Try.underlying148 HJ.out (by rw [HJS.out]; decide) HSH.out (by show 8 < 16; decide)]
    simp only [Result.andThen]
    rw [Oper.upon_value]
    go_wp2
    rw [run_callFunc_extern Try.func112 (by kernel_rfl) (by kernel_rfl) (by kernel_rfl) (e := Extern.AbiNoEscape.same) (by kernel_rfl)]
    rw [Lib.run_noEscape]
    simp only [Result.andThen]
    rw [Oper.upon_value]
    go_wp2
    rw [Lib.run_from_unsafe wr ⟨x.M, 8, none⟩ Try.underlying148 Try.underlying71 HJ.out HSH.out lies_builder]
    simp only [Result.andThen]
    rw [Oper.upon_value]
    go_wp2
    go_end0
    exact ⟨rfl, hS.out.setAd⟩
  · have HJ := Lib.hid hj
    clear h h1 hj hjs hsh
    go_enter Try.func109, Try.ntmps109
    go_wp2
    rw [Lib.run_neq_ptr_same wr _ Try.underlying71 HJ.out]
    go_wp2
    go_end0
    exact ⟨rfl, hS.out⟩
theorem info_byte : (Try.prog.info? 5).map (fun i => (i.zero, i.size, i.bytes)) = some (some (.int .u8 0), 1, 1) := by kernel_rfl
theorem out_next {n : Nat} (_h : n < 3) (c : Int) (hc : outL[n]? = some (.int .u8 c)) : outL.take n ++ [.int .u8 c] = outL.take (n + 1) := by
  rw [List.take_add_one, hc]; rfl
set_option maxHeartbeats 4000000 in
set_option maxRecDepth 100000 in
theorem writeByte_st {x : Fx} {w wr : World} {rd v : Int} {n : Nat} {steps at_ stop : Int} (h : St x w rd v n steps at_ stop wr) (c : Int) (hn : n < 3) (hc : outL[n]? = some (.int .u8 c)) :
    Calls Try.prog 83 #[.pointer (some ⟨x.M, 8, none⟩), .int .u8 c] wr fun e w' => e = .returned .nilIface ∧ St x w rd v (n + 1) steps at_ stop w' := by
  obtain ⟨i0, hi, hz0, hz1, hz2⟩ := info_parts info_byte
  have HO := Lib.hid (out_next hn c hc)
  have HI := Lib.hid (And.intro hi (And.intro hz0 (And.intro hz1 hz2)))
  have hS := Lib.hid h
  have HL := Lib.hid (show (outL.take n).length = n by simp [outL]; omega)
  clear h hc hi hz0 hz1 hz2
  go_enter Try.func83, Try.ntmps83
  go_wp2_with (first
    | (have hlater := hS1
       (refine wpList_append_lies _ (by rfl) _ _ 49 (by rfl) x.N 5 i0 _ 1 1 Try.underlying49 HI.out.1 HI.out.2.1 HI.out.2.2.1 HI.out.2.2.2 rfl (by omega) _ n _ (by rfl) (HOWN.out.alloc _) ⟨w1.heap.size, 0, none⟩ 1 1 [.int .u8 c] (by rfl) rfl (by intro j u hj; match j, hj with | 0, hj => simp at hj; subst hj; simp [Addr.add]) (by simp [Value.oneCell']) (by omega) (by unfold maxLen; omega) (by omega) (by have := hS1.out.size; simp; omega) _ rfl ?_))
    | (go_at_call 109; refine (copyCheck_st hS.out).mono ?_; rintro e w1 ⟨rfl, h1⟩; have hS1 := Lib.hid h1; obtain ⟨ad, bp, bc, hm, had, hown⟩ := h1.mach; have HM := Lib.hid hm; have HAD := Lib.hid had; have HOWN := Lib.hid hown; obtain ⟨a9, f9⟩ := cell_of_block hm (k := 9) (v := .slice bp n bc) rfl; have hlm := h1.lm; clear h1 hm had hown))
  intro g cap w2 h1 h2 h3 h4
  rw [HO.out] at h1
  have hgb : w1.grownBy w2 (Value.slice bp n bc).ownBlock := ⟨h2.os, h2.tape, h2.output, by have := h2.size; simp at this; omega, fun j hj hne => by rw [h2.block j (by simp; omega) hne]; exact Below.heap_alloc _ _ _ hj⟩
  have HN := Lib.hid h1
  have HG := Lib.hid hgb
  have hlm2 : x.M < w2.heap.size := Nat.lt_of_lt_of_le hlm hgb.size
  have f9' : w2.frozen? ⟨x.M, 9, none⟩ = false := by
    have hne : some x.M ≠ (Value.slice bp n bc).ownBlock := fun e => by
      have := (HOWN.out.lt _ e.symm).1
      have := hS1.out.ok.mn
      omega
    unfold World.frozen? at f9 ⊢
    rw [hgb.block x.M hlm hne]; exact f9
  have a9' : w2.cell? ⟨x.M, 9, none⟩ = some (.slice bp n bc) := by
    have hne : some x.M ≠ (Value.slice bp n bc).ownBlock := fun e => by
      have := (HOWN.out.lt _ e.symm).1
      have := hS1.out.ok.mn
      omega
    unfold World.cell? at a9 ⊢
    rw [hgb.block x.M hlm hne]; exact a9
  clear h1 h2 h3 hgb a9 f9 hlater
  go_wp2
  go_ret
  exact ⟨rfl, hS1.out.grow HM.out HG.out HOWN.out HAD.out HN.out⟩
end Go.Proofs.Ythaombggdchgbaa.Graph
