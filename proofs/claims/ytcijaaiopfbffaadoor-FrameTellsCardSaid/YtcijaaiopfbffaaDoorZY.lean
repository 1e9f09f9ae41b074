/- What needed does: its beginning . -/
import Derived.Test.YtcijaaiopfbffaaDoorLK
import Derived.Test.YtcijaaiopfbffaaDoorZp
import Derived.Deep.RegionLaw
import Derived.Deep.RegionHeld3
namespace Go.Proofs.YtcijaaiopfbffaaDoor.Live
open Go.RowKit Go.Proofs.YtcijaaiopfbffaaDoor.Graph

/-- The needs, made: of noughts, in new blocks. -/
structure Made (w wq : World) (sb nb fb tb n : Nat) (va : Value) : Prop where
  nd : NdSt sb nb fb tb n va (fun _ => 0) (fun _ => 0) (fun _ => 0) wq
  new : w.heap.size ≤ sb ∧ w.heap.size ≤ nb ∧ w.heap.size ≤ fb ∧ w.heap.size ≤ tb
  below : Below w.heap.size w wq
  sne : sb ≠ tb
theorem made_needs (w : World) (q sb nb fb tb n : Nat) (va : Value) (hs : sb = w.heap.size + 3) (hb : (nb = w.heap.size ∨ nb = w.heap.size + 1 ∨ nb = w.heap.size + 2) ∧ (fb = w.heap.size ∨ fb = w.heap.size + 1 ∨ fb = w.heap.size + 2) ∧ (tb = w.heap.size ∨ tb = w.heap.size + 1 ∨ tb = w.heap.size + 2) ∧ nb ≠ fb ∧ nb ≠ tb ∧ fb ≠ tb)
    (wq : World) (hq : wq = (((((w.drewN q).alloc (.cells (madeCells #[.int .u64 0] n) 71)).alloc (.cells (madeCells #[.int .u64 0] n) 71)).alloc (.cells (madeCells #[.int .u64 0] n) 71)).alloc (.cells #[.slice (some ⟨nb, 0, none⟩) n n, .slice (some ⟨fb, 0, none⟩) n n, .slice (some ⟨tb, 0, none⟩) n n, va] 103))) :
    Made w wq sb nb fb tb n va := by
  subst hs
  obtain ⟨h1, h2, h3, h4, h5, h6⟩ := hb
  generalize ho : Obj.cells (madeCells #[.int .u64 0] n) 71 = o at hq
  have hz : (w.drewN q).heap.size = w.heap.size := rfl
  have e0 : ∀ k, (k = w.heap.size ∨ k = w.heap.size + 1 ∨ k = w.heap.size + 2) → wq.heap[k]? = some o := by
    intro k hk
    rw [hq]
    have hs3 : ((((w.drewN q).alloc o).alloc o).alloc o).heap.size = w.heap.size + 3 := by simp only [World.size_alloc]; omega
    rw [Below.heap_alloc _ _ k (by omega)]
    rcases hk with rfl | rfl | rfl
    · rw [Below.heap_alloc _ _ _ (by simp only [World.size_alloc]; omega), Below.heap_alloc _ _ _ (by simp only [World.size_alloc]; omega)]; exact World.alloc_heap_new (w.drewN q) o
    · rw [Below.heap_alloc _ _ _ (by simp only [World.size_alloc]; omega)]; have := World.alloc_heap_new ((w.drewN q).alloc o) o; simpa [hz] using this
    · have := World.alloc_heap_new (((w.drewN q).alloc o).alloc o) o; simpa [hz] using this
  have e3 : wq.heap[w.heap.size + 3]? = some (.cells #[.slice (some ⟨nb, 0, none⟩) n n, .slice (some ⟨fb, 0, none⟩) n n, .slice (some ⟨tb, 0, none⟩) n n, va] 103 (0, 0)) := by
    rw [hq]
    have := World.alloc_heap_new ((((w.drewN q).alloc o).alloc o).alloc o) (.cells #[.slice (some ⟨nb, 0, none⟩) n n, .slice (some ⟨fb, 0, none⟩) n n, .slice (some ⟨tb, 0, none⟩) n n, va] 103)
    simpa [hz] using this
  refine ⟨⟨e3, made_words (ho ▸ e0 nb h1), made_words (ho ▸ e0 fb h2), made_words (ho ▸ e0 tb h3), by omega⟩, by omega, ?_, by omega⟩
  rw [hq]
  exact ((((Graph.below_drewN w q).alloc (Nat.le_refl _) _).alloc (by simp only [World.size_alloc]; omega) _).alloc (by simp only [World.size_alloc]; omega) _).alloc (by simp only [World.size_alloc]; omega) _
theorem NdSt.setS {w : World} {sb nb fb db n : Nat} {va : Value} {N F S : Nat → Nat} (h : NdSt sb nb fb db n va N F S w) (hs : sb ≠ db) {b : Nat} (v : Nat) : NdSt sb nb fb db n va N F (put1 S b v) (w.setCell ⟨db, b, none⟩ (.int .u64 (v : Nat))) := by
  obtain ⟨h1, h2, h3, h4, h5⟩ := h.ne
  have hne : ∀ k, k ≠ db → (w.setCell ⟨db, b, none⟩ (.int .u64 (v : Nat))).heap[k]? = w.heap[k]? := fun k hk => heap_setCell_other w ⟨db, b, none⟩ k _ hk
  exact ⟨(hne _ hs).trans h.box, h.nr.keep (hne _ (Ne.symm h3)), h.fr.keep (hne _ (Ne.symm h4)), h.sr.set v, h.ne⟩
theorem NdSt.congr {w : World} {sb nb fb db n : Nat} {va : Value} {N F S N' F' S' : Nat → Nat} (h : NdSt sb nb fb db n va N F S w) (he : ∀ b, b < n → N b = N' b ∧ F b = F' b ∧ S b = S' b) : NdSt sb nb fb db n va N' F' S' w := by
  have key : ∀ {g : Nat} {U U' : Nat → Nat}, WRow w g n U → (∀ b, b < n → U b = U' b) → WRow w g n U' := fun h he => by
    obtain ⟨cs, h1, h2, h3⟩ := h
    exact ⟨cs, h1, h2, fun b hb => by rw [h3 b hb, he b hb]⟩
  exact ⟨h.box, key h.nr fun b hb => (he b hb).1, key h.fr fun b hb => (he b hb).2.1, key h.sr fun b hb => (he b hb).2.2, h.ne⟩
theorem need_round {w wr : World} {lb ub db sb nb fb tb n : Nat} {va : Value} {V : Nat → Nat → Nat} {N F S : Nat → Nat} {L : Nat → Look} (hV : SetsAt wr w.heap.size n V) (hN : NdSt sb nb fb tb n va N F S wr) (hL : LookSt lb ub db n va L wr) (hB : Below w.heap.size w wr)
    (h1 : lb ≠ nb ∧ lb ≠ fb ∧ lb ≠ tb ∧ ub ≠ nb ∧ ub ≠ fb ∧ ub ≠ tb ∧ db ≠ nb ∧ db ≠ fb ∧ db ≠ tb) (h2 : sb ≠ tb) (h3 : w.heap.size ≠ sb ∧ w.heap.size ≠ nb ∧ w.heap.size ≠ fb ∧ w.heap.size ≠ tb) (h4 : w.heap.size < sb ∧ w.heap.size < nb ∧ w.heap.size < fb ∧ w.heap.size < tb) (j v1 v2 v3 : Nat) :
    SetsAt ((((wr.setCell ⟨nb, j, none⟩ (.int .u64 (v1 : Nat))).setCell ⟨fb, j, none⟩ (.int .u64 (v2 : Nat))).setCell ⟨tb, j, none⟩ (.int .u64 (v3 : Nat))).drew) w.heap.size n V ∧ NdSt sb nb fb tb n va (put1 N j v1) (put1 F j v2) (put1 S j v3) ((((wr.setCell ⟨nb, j, none⟩ (.int .u64 (v1 : Nat))).setCell ⟨fb, j, none⟩ (.int .u64 (v2 : Nat))).setCell ⟨tb, j, none⟩ (.int .u64 (v3 : Nat))).drew) ∧ LookSt lb ub db n va L ((((wr.setCell ⟨nb, j, none⟩ (.int .u64 (v1 : Nat))).setCell ⟨fb, j, none⟩ (.int .u64 (v2 : Nat))).setCell ⟨tb, j, none⟩ (.int .u64 (v3 : Nat))).drew) ∧ Below w.heap.size w ((((wr.setCell ⟨nb, j, none⟩ (.int .u64 (v1 : Nat))).setCell ⟨fb, j, none⟩ (.int .u64 (v2 : Nat))).setCell ⟨tb, j, none⟩ (.int .u64 (v3 : Nat))).drew) := by
  have hst : ∀ i, i ≠ nb → i ≠ fb → i ≠ tb → ((((wr.setCell ⟨nb, j, none⟩ (.int .u64 (v1 : Nat))).setCell ⟨fb, j, none⟩ (.int .u64 (v2 : Nat))).setCell ⟨tb, j, none⟩ (.int .u64 (v3 : Nat))).drew).heap[i]? = wr.heap[i]? := fun i h1 h2 h3 => by
    show (((wr.setCell ⟨nb, j, none⟩ (.int .u64 (v1 : Nat))).setCell ⟨fb, j, none⟩ (.int .u64 (v2 : Nat))).setCell ⟨tb, j, none⟩ (.int .u64 (v3 : Nat))).heap[i]? = wr.heap[i]?
    rw [heap_setCell_other _ ⟨tb, j, none⟩ i _ h3, heap_setCell_other _ ⟨fb, j, none⟩ i _ h2, heap_setCell_other _ ⟨nb, j, none⟩ i _ h1]
  refine ⟨hV.keep (hst _ h3.2.1 h3.2.2.1 h3.2.2.2), (((hN.setN (b := j) v1).setF (b := j) v2).setS h2 (b := j) v3).below (Below.refl _ _).drew, hL.same3 fun q hq => hst q (by omega) (by omega) (by omega), hB.os, hB.tape, hB.output, ?_, fun i hi => (hst i (by omega) (by omega) (by omega)).trans (hB.block i hi)⟩
  show w.heap.size ≤ (((wr.setCell ⟨nb, j, none⟩ (.int .u64 (v1 : Nat))).setCell ⟨fb, j, none⟩ (.int .u64 (v2 : Nat))).setCell ⟨tb, j, none⟩ (.int .u64 (v3 : Nat))).heap.size
  rw [World.size_setCell, World.size_setCell, World.size_setCell]
  exact hB.size
theorem need_back {w wr : World} {lb ub db sb nb fb tb n : Nat} {va : Value} {V : Nat → Nat → Nat} {N F S : Nat → Nat} {L : Nat → Look} (hV : SetsAt wr w.heap.size n V) (hN : NdSt sb nb fb tb n va N F S wr) (hL : LookSt lb ub db n va L wr) (hB : Below w.heap.size w wr)
    (h3 : w.heap.size ≠ sb ∧ w.heap.size ≠ nb ∧ w.heap.size ≠ fb ∧ w.heap.size ≠ tb) (h4 : lb ≠ w.heap.size ∧ ub ≠ w.heap.size ∧ db ≠ w.heap.size) {r k : Nat} (hr : r < n) (hk : k < 125) (v : Nat) :
    SetsAt ((wr.setCell ⟨w.heap.size, r * 125 + k, none⟩ (.int .u64 (v : Nat))).drew) w.heap.size n (fun c u => if c = r ∧ u = k then v else V c u) ∧ NdSt sb nb fb tb n va N F S ((wr.setCell ⟨w.heap.size, r * 125 + k, none⟩ (.int .u64 (v : Nat))).drew) ∧ LookSt lb ub db n va L ((wr.setCell ⟨w.heap.size, r * 125 + k, none⟩ (.int .u64 (v : Nat))).drew) ∧ Below w.heap.size w ((wr.setCell ⟨w.heap.size, r * 125 + k, none⟩ (.int .u64 (v : Nat))).drew) := by
  have hst : ∀ i, i ≠ w.heap.size → ((wr.setCell ⟨w.heap.size, r * 125 + k, none⟩ (.int .u64 (v : Nat))).drew).heap[i]? = wr.heap[i]? := fun i h => heap_setCell_other wr ⟨w.heap.size, r * 125 + k, none⟩ i _ h
  refine ⟨(hV.set hr hk v).keep rfl, hN.keep fun q hq _ => hst q (by omega), hL.same3 fun q hq => hst q (by omega), hB.os, hB.tape, hB.output, ?_, fun i hi => (hst i (by omega)).trans (hB.block i hi)⟩
  show w.heap.size ≤ (wr.setCell ⟨w.heap.size, r * 125 + k, none⟩ (.int .u64 (v : Nat))).heap.size
  rw [World.size_setCell]
  exact hB.size
end Go.Proofs.YtcijaaiopfbffaaDoor.Live
namespace Go.Proofs.YtcijaaiopfbffaaDoor.Live
open Go.RowKit Go.Proofs.YtcijaaiopfbffaaDoor.Graph

def NeededPost (g : PGr) (n : Nat) (w : World) (e : Ending) (w' : World) : Prop :=
  ∃ fo V, e = .returned (.slice (some ⟨fo, 0, none⟩) n n) ∧ SetsAt w' fo n V ∧ (∀ b wd, b < n → wd < 125 → V b wd < w64 ∧ ∀ i, i < 64 → ((V b wd).testBit i = true ↔ Need g b ((64 * wd + i : Nat) : Int))) ∧ Below w.heap.size w w'
set_option maxHeartbeats 8000000 in
set_option maxRecDepth 100000 in
theorem needed_any {w0 w : World} {g : PGr} {n lb ub db : Nat} {va : Value} {L : Nat → Look} {A : Nat → List Nat} (hf : fitsB g = true) (hx : ∀ wd, Fx g n wd (fun b => (L b).u wd) (fun b => (L b).d wd) A) (hA : AhR w0 va n A) (hw0 : Below w0.heap.size w0 w) (h : LookSt lb ub db n va L w) (hn : n ≤ 20000) (hm : 0 ≤ g.temps ∧ g.temps ≤ 8000) :
    Calls Tryd.prog 32 #[.pointer (some ⟨lb, 0, none⟩), .int .i64 g.temps] w (NeededPost g n w) := by
  have c0 : w.cell? ⟨lb, 0, none⟩ = some (.slice (some ⟨ub, 0, none⟩) n n) := by simp [World.cell?, h.look]
  have hlw : lb < w.heap.size := (Array.getElem?_eq_some_iff.1 h.look).1
  have c2 : w.cell? ⟨lb, 2, none⟩ = some va := by simp [World.cell?, h.look]
  have ni : (n : Int) ≤ 20000 := by omega
  have hmk := fun w => make_sets n hn w
  have HMW := Lib.hid (fun w => make_words n hn w)
  have HX := Lib.hid hx
  have HA := Lib.hid hA
  have HW0 := Lib.hid hw0
  have HL := Lib.hid h
  have HN := Lib.hid hn
  obtain ⟨ab, rfl, _⟩ := hA
  clear hx hw0 h
  go_enter Tryd.func32, Tryd.ntmps32
  go_upto_region 3 with (fail)
  have hb1 := Graph.below_alloc w (.cells (madeCells zeroCs (n * 125)) 73)
  have c2' := (hb1.cell (p := ⟨lb, 2, none⟩) hlw).trans c2
  have HS1 : Hid (SetsAt (w.alloc (.cells (madeCells zeroCs (n * 125)) 73)) w.heap.size n fun _ _ => 0) := Lib.hid (made_sets (heap_new w _))
  have HB1 := Lib.hid hb1
  have hl1 : lb < (w.alloc (.cells (madeCells zeroCs (n * 125)) 73)).heap.size := Nat.lt_of_lt_of_le hlw hb1.size
  generalize w.alloc (.cells (madeCells zeroCs (n * 125)) 73) = w1 at *
  clear hmk hb1 c0 c2
  have hmw := HMW.out
  have cx : ∀ (o1 o2 o3 : Obj), (w1.alloc o1).cell? ⟨lb, 2, none⟩ = some (.slice (some ⟨ab, 0, none⟩) n n) ∧ ((w1.alloc o1).alloc o2).cell? ⟨lb, 2, none⟩ = some (.slice (some ⟨ab, 0, none⟩) n n) ∧ (((w1.alloc o1).alloc o2).alloc o3).cell? ⟨lb, 2, none⟩ = some (.slice (some ⟨ab, 0, none⟩) n n) := fun o1 o2 o3 => by
    have h1 : Below w1.heap.size w1 (w1.alloc o1) := below_alloc w1 o1
    have h2 : Below w1.heap.size w1 ((w1.alloc o1).alloc o2) := h1.alloc (by simp) _
    have h3 : Below w1.heap.size w1 (((w1.alloc o1).alloc o2).alloc o3) := h2.alloc (by simp; omega) _
    exact ⟨(h1.cell (p := ⟨lb, 2, none⟩) hl1).trans c2', (h2.cell (p := ⟨lb, 2, none⟩) hl1).trans c2', (h3.cell (p := ⟨lb, 2, none⟩) hl1).trans c2'⟩
  obtain ⟨cx1, cx2, cx3⟩ := cx (.cells (madeCells #[.int .u64 0] n) 71) (.cells (madeCells #[.int .u64 0] n) 71) (.cells (madeCells #[.int .u64 0] n) 71)
  clear cx
  go_cut [7] from 18 to 29 (fun p wq => ∃ sb nb fb tb, p = .pointer (some ⟨sb, 0, none⟩) ∧ Hid (Made w1 wq sb nb fb tb n (.slice (some ⟨ab, 0, none⟩) n n)))
  case first =>
    go_region
    all_goals
      go_wp2
      go_meet
      exact ⟨_, _, _, _, rfl, Lib.hid (made_needs w1 1 _ _ _ _ n _ (by first | rfl | (simp only [World.size_alloc]; omega)) (by refine ⟨?_, ?_, ?_, ?_, ?_, ?_⟩ <;> omega) _ rfl)⟩
  case rest =>
    obtain ⟨sb, nb, fb, tb, rfl, HMD⟩ := hcut
    clear cx1 cx2 cx3 hmw
    have hm0 := hm.1
    have hm1 := hm.2
    have HFO : Hid (SetsAt wc w.heap.size n fun _ _ => 0) := Lib.hid (HS1.out.keep (HMD.out.below.block _ HS1.out.lt))
    have HLW : Hid (LookSt lb ub db n (.slice (some ⟨ab, 0, none⟩) n n) L wc) := Lib.hid (HL.out.keep (HB1.out.trans (HMD.out.below.mono HB1.out.size)))
    have HBC : Hid (Below w.heap.size w wc) := Lib.hid (HB1.out.trans (HMD.out.below.mono HB1.out.size))
    have HNW : Hid (w.heap.size < sb ∧ w.heap.size < nb ∧ w.heap.size < fb ∧ w.heap.size < tb) := Lib.hid (by have := HMD.out.new; have := HS1.out.lt; omega)
    have HND := Lib.hid HMD.out.nd
    have HFAR : Hid ((lb ≠ nb ∧ lb ≠ fb ∧ lb ≠ tb ∧ ub ≠ nb ∧ ub ≠ fb ∧ ub ≠ tb ∧ db ≠ nb ∧ db ≠ fb ∧ db ≠ tb) ∧ sb ≠ tb ∧ (w.heap.size ≠ sb ∧ w.heap.size ≠ nb ∧ w.heap.size ≠ fb ∧ w.heap.size ≠ tb) ∧ (lb ≠ w.heap.size ∧ ub ≠ w.heap.size ∧ db ≠ w.heap.size)) := Lib.hid (by
      have h1 := HMD.out.new
      have h2 := HS1.out.lt
      have h3 := HL.out.us.lt
      have h4 := HL.out.ds.lt
      have h5 := HMD.out.sne
      omega)
    clear HMD HS1 hl1 c2' HB1
    obtain ⟨K, hK⟩ : ∃ K : Nat, (K : Int) = (g.temps + 64 - 1) / 64 := ⟨_, Int.toNat_of_nonneg (by omega)⟩
    have hK1 : (K : Int) ≤ 125 := by omega
    have HKT : Hid (g.temps ≤ 64 * (K : Int)) := Lib.hid (by omega)
    go_wp2
    rw [← hK]
    clear hK hm hm0 hm1
    go_loopw [34] (fun i wr => ∃ (k : Nat) (V : Nat → Nat → Nat) (N F S : Nat → Nat), k ≤ K ∧ i = .int .i64 k ∧ Hid (SetsAt wr w.heap.size n V) ∧ Hid (NdSt sb nb fb tb n (.slice (some ⟨ab, 0, none⟩) n n) N F S wr) ∧ Hid (LookSt lb ub db n (.slice (some ⟨ab, 0, none⟩) n n) L wr) ∧ Hid (Below w.heap.size w wr) ∧ Hid (∀ b u, b < n → u < 125 → V b u < w64 ∧ ∀ i, i < 64 → ((V b u).testBit i = true ↔ (u < k ∧ Need g b ((64 * u + i : Nat) : Int))))) (fun i _ => K - (intOf i).toNat)
    case atStart => exact ⟨0, fun _ _ => 0, _, _, _, Nat.zero_le _, rfl, HFO, HND, HLW, HBC, Lib.hid (fun b u _ _ => ⟨by show (0 : Nat) < 18446744073709551616; decide, fun i _ => by rw [Nat.zero_testBit]; simp⟩)⟩
    case round =>
      obtain ⟨k, V, N, F, S, hk, rfl, HV, HN2, HL2, HB2, HQ⟩ := hrel
      by_cases hkK : k < K
      · have ki : (k : Int) < K := by omega
        have k0 : (0 : Int) ≤ k := by omega
        have k1 : (k : Int) < 125 := by omega
        have k2 : k < 125 := by omega
        go_wp2
        go_loopw [39] (fun i wr2 => ∃ (j : Nat) (N F S : Nat → Nat), j ≤ n ∧ i = .int .i64 j ∧ Hid (SetsAt wr2 w.heap.size n V) ∧ Hid (NdSt sb nb fb tb n (.slice (some ⟨ab, 0, none⟩) n n) N F S wr2) ∧ Hid (LookSt lb ub db n (.slice (some ⟨ab, 0, none⟩) n n) L wr2) ∧ Hid (Below w.heap.size w wr2) ∧ Hid (∀ b, b < j → N b = (L b).u k ∧ F b = (L b).u k ∧ S b = (L b).d k)) (fun i _ => n - (intOf i).toNat)
        case atStart => exact ⟨0, N, F, S, Nat.zero_le _, rfl, HV, HN2, HL2, HB2, Lib.hid (fun b hb => absurd hb (Nat.not_lt_zero _))⟩
        case round =>
          obtain ⟨j, N1, F1, S1, hj, rfl, HV3, HN3, HL3, HB3, HE⟩ := hrel
          by_cases hjn : j < n
          · have ji : (j : Int) < n := by omega
            have j0 : (0 : Int) ≤ j := by omega
            have d0 : wr.cell? ⟨sb, 0, none⟩ = some (.slice (some ⟨nb, 0, none⟩) n n) := by simp [World.cell?, HN3.out.box]
            have d1 : wr.cell? ⟨sb, 1, none⟩ = some (.slice (some ⟨fb, 0, none⟩) n n) := by simp [World.cell?, HN3.out.box]
            have d2 : wr.cell? ⟨sb, 2, none⟩ = some (.slice (some ⟨tb, 0, none⟩) n n) := by simp [World.cell?, HN3.out.box]
            have l0 : wr.cell? ⟨lb, 0, none⟩ = some (.slice (some ⟨ub, 0, none⟩) n n) := by simp [World.cell?, HL3.out.look]
            have l1 : wr.cell? ⟨lb, 1, none⟩ = some (.slice (some ⟨db, 0, none⟩) n n) := by simp [World.cell?, HL3.out.look]
            have cu := HL3.out.us.cell hjn k2
            have cd := HL3.out.ds.cell hjn k2
            have xn := HN3.out.nr.cell hjn
            have xf := HN3.out.fr.cell hjn
            have xs := HN3.out.sr.cell hjn
            have zn := HN3.out.nr.frozen j
            have zf := HN3.out.fr.frozen j
            have zs := HN3.out.sr.frozen j
            obtain ⟨q1, q2, q3, q4, q5⟩ := HN3.out.ne
            obtain ⟨⟨r1, r2, r3, r4, r5, r6, r7, r8, r9⟩, r10, _⟩ := HFAR.out
            have r1' := r1.symm
            have r2' := r2.symm
            have r3' := r3.symm
            have r4' := r4.symm
            have r5' := r5.symm
            have r6' := r6.symm
            have r7' := r7.symm
            have r8' := r8.symm
            have r9' := r9.symm
            have r10' := r10.symm
            have q1' := q1.symm
            have q2' := q2.symm
            have q3' := q3.symm
            have q4' := q4.symm
            have q5' := q5.symm
            go_upto_region 10 with (fail)
            refine wp_onlyN ?_
            go_region_held3 (fun W => W.cell? ⟨sb, 0, none⟩ = some (.slice (some ⟨nb, 0, none⟩) n n) ∧ W.cell? ⟨sb, 1, none⟩ = some (.slice (some ⟨fb, 0, none⟩) n n) ∧ W.cell? ⟨sb, 2, none⟩ = some (.slice (some ⟨tb, 0, none⟩) n n) ∧ W.cell? ⟨lb, 0, none⟩ = some (.slice (some ⟨ub, 0, none⟩) n n) ∧ W.cell? ⟨lb, 1, none⟩ = some (.slice (some ⟨db, 0, none⟩) n n) ∧ W.cell? ⟨ub, j * 125 + k, none⟩ = some (.int .u64 ((L j).u k : Nat)) ∧ W.cell? ⟨db, j * 125 + k, none⟩ = some (.int .u64 ((L j).d k : Nat))) (go_keep) (fail)
            dsimp only [onlyN]
            have HDR : Hid (SetsAt ((((wr.setCell ⟨nb, j, none⟩ (.int .u64 ((L j).u k : Nat))).setCell ⟨fb, j, none⟩ (.int .u64 ((L j).u k : Nat))).setCell ⟨tb, j, none⟩ (.int .u64 ((L j).d k : Nat))).drew) w.heap.size n V ∧ NdSt sb nb fb tb n (.slice (some ⟨ab, 0, none⟩) n n) (put1 N1 j ((L j).u k)) (put1 F1 j ((L j).u k)) (put1 S1 j ((L j).d k)) ((((wr.setCell ⟨nb, j, none⟩ (.int .u64 ((L j).u k : Nat))).setCell ⟨fb, j, none⟩ (.int .u64 ((L j).u k : Nat))).setCell ⟨tb, j, none⟩ (.int .u64 ((L j).d k : Nat))).drew) ∧ LookSt lb ub db n (.slice (some ⟨ab, 0, none⟩) n n) L ((((wr.setCell ⟨nb, j, none⟩ (.int .u64 ((L j).u k : Nat))).setCell ⟨fb, j, none⟩ (.int .u64 ((L j).u k : Nat))).setCell ⟨tb, j, none⟩ (.int .u64 ((L j).d k : Nat))).drew) ∧ Below w.heap.size w ((((wr.setCell ⟨nb, j, none⟩ (.int .u64 ((L j).u k : Nat))).setCell ⟨fb, j, none⟩ (.int .u64 ((L j).u k : Nat))).setCell ⟨tb, j, none⟩ (.int .u64 ((L j).d k : Nat))).drew)) := Lib.hid (need_round HV3.out HN3.out HL3.out HB3.out HFAR.out.1 HFAR.out.2.1 HFAR.out.2.2.1 HNW.out j _ _ _)
            have HE2 : Hid (∀ b, b < j + 1 → put1 N1 j ((L j).u k) b = (L b).u k ∧ put1 F1 j ((L j).u k) b = (L b).u k ∧ put1 S1 j ((L j).d k) b = (L b).d k) := Lib.hid (fun b hb => by
              by_cases e : b = j
              · subst e; exact ⟨put1_same _ _ _, put1_same _ _ _, put1_same _ _ _⟩
              · rw [put1_other e, put1_other e, put1_other e]; exact HE.out b (by omega))
            clear d0 d1 d2 l0 l1 cu cd xn xf xs zn zf zs HV3 HN3 HL3 HB3
            go_wp2
            exact ⟨⟨j + 1, _, _, _, by omega, by go_num, Lib.hid HDR.out.1, Lib.hid HDR.out.2.1, Lib.hid HDR.out.2.2.1, Lib.hid HDR.out.2.2.2, HE2⟩, by simp [intOf]; omega⟩
          · have hjn2 : j = n := by omega
            have j5 : ¬ ((j : Int) < n) := by omega
            have HS0 : Hid (NdSt sb nb fb tb n (.slice (some ⟨ab, 0, none⟩) n n) (fun b => (L b).u k) (fun b => (L b).u k) (fun b => (L b).d k) wr) := Lib.hid (HN3.out.congr fun b hb => HE.out b (by omega))
            have HSP := Lib.hid (spread_any (HX.out k) HA.out HS0.out (below_then HW0.out (HB3.out.mono (Nat.le_refl _))) (by have := HNW.out; have := HW0.out.size; omega) HN.out)
            clear HN3 HE
            go_wp2_with (
              go_at_call 55
              refine HSP.out.mono ?_
              rintro e w5 ⟨rfl, N5, F5, h1, h2, h3, h4⟩
              have H1 := Lib.hid h1
              have H2 := Lib.hid h2
              have H3 := Lib.hid h3
              have H4 := Lib.hid h4
              clear h1 h2 h3 h4)
            have HV5 : Hid (SetsAt w5 w.heap.size n V) := Lib.hid (HV3.out.keep (H4.out.block _ HV3.out.lt (by have := HFAR.out; omega) (by have := HFAR.out; omega) (by simp)))
            have HL5 : Hid (LookSt lb ub db n (.slice (some ⟨ab, 0, none⟩) n n) L w5) := Lib.hid (HL3.out.same3 fun q hq => H4.out.block q (by
              rcases hq with rfl | rfl | rfl
              · exact (Array.getElem?_eq_some_iff.1 HL3.out.look).1
              · exact HL3.out.us.lt
              · exact HL3.out.ds.lt) (by have := HFAR.out; omega) (by have := HFAR.out; omega) (by simp))
            have HB5 : Hid (Below w.heap.size w w5) := Lib.hid (H4.out.below HB3.out (by have := HNW.out; omega) (by have := HNW.out; omega) (fun q hq => by cases hq))
            clear HSP HS0 H4 HV3 HL3 HB3
            go_loopw [92] (fun i wq => ∃ (r : Nat) (V' : Nat → Nat → Nat), r ≤ n ∧ i = .int .i64 r ∧ Hid (SetsAt wq w.heap.size n V') ∧ Hid (NdSt sb nb fb tb n (.slice (some ⟨ab, 0, none⟩) n n) N5 F5 (fun b => (L b).d k) wq) ∧ Hid (LookSt lb ub db n (.slice (some ⟨ab, 0, none⟩) n n) L wq) ∧ Hid (Below w.heap.size w wq) ∧ Hid (∀ b u, V' b u = if b < r ∧ u = k then N5 b else V b u)) (fun i _ => n - (intOf i).toNat)
            case atStart => exact ⟨0, V, Nat.zero_le _, rfl, HV5, H1, HL5, HB5, Lib.hid (fun b u => by rw [if_neg (by omega)])⟩
            case round =>
              obtain ⟨r, V', hr, rfl, HV6, HN6, HL6, HB6, HE6⟩ := hrel
              by_cases hrn : r < n
              · have ri : (r : Int) < n := by omega
                have r0 : (0 : Int) ≤ r := by omega
                have d0 : wr.cell? ⟨sb, 0, none⟩ = some (.slice (some ⟨nb, 0, none⟩) n n) := by simp [World.cell?, HN6.out.box]
                have xn := HN6.out.nr.cell hrn
                have xv := HV6.out.cell hrn k2
                have zv := HV6.out.frozen (r * 125 + k)
                have HR7 : Hid (SetsAt ((wr.setCell ⟨w.heap.size, r * 125 + k, none⟩ (.int .u64 (N5 r : Nat))).drew) w.heap.size n (fun c u => if c = r ∧ u = k then N5 r else V' c u) ∧ NdSt sb nb fb tb n (.slice (some ⟨ab, 0, none⟩) n n) N5 F5 (fun b => (L b).d k) ((wr.setCell ⟨w.heap.size, r * 125 + k, none⟩ (.int .u64 (N5 r : Nat))).drew) ∧ LookSt lb ub db n (.slice (some ⟨ab, 0, none⟩) n n) L ((wr.setCell ⟨w.heap.size, r * 125 + k, none⟩ (.int .u64 (N5 r : Nat))).drew) ∧ Below w.heap.size w ((wr.setCell ⟨w.heap.size, r * 125 + k, none⟩ (.int .u64 (N5 r : Nat))).drew)) := Lib.hid (need_back HV6.out HN6.out HL6.out HB6.out HFAR.out.2.2.1 HFAR.out.2.2.2 hrn k2 _)
                have HE7 : Hid (∀ b u, (fun c u => if c = r ∧ u = k then N5 r else V' c u) b u = if b < r + 1 ∧ u = k then N5 b else V b u) := Lib.hid (fun b u => by
                  show (if b = r ∧ u = k then N5 r else V' b u) = _
                  rw [HE6.out b u]
                  by_cases e1 : u = k
                  · by_cases e2 : b = r
                    · subst e2; rw [if_pos ⟨rfl, e1⟩, if_pos ⟨by omega, e1⟩]
                    · rw [if_neg (fun h => e2 h.1)]
                      by_cases e3 : b < r
                      · rw [if_pos ⟨e3, e1⟩, if_pos ⟨by omega, e1⟩]
                      · rw [if_neg (fun h => e3 h.1), if_neg (fun h => by omega)]
                  · rw [if_neg (fun h => e1 h.2), if_neg (fun h => e1 h.2), if_neg (fun h => e1 h.2)])
                clear HV6 HN6 HL6 HB6 HE6
                go_upto_region 16 with (fail)
                refine wp_onlyN ?_
                go_region
                all_goals
                  dsimp only [onlyN]
                  clear d0 xn xv zv
                  go_wp2
                  exact ⟨⟨r + 1, _, by omega, by go_num, Lib.hid HR7.out.1, Lib.hid HR7.out.2.1, Lib.hid HR7.out.2.2.1, Lib.hid HR7.out.2.2.2, HE7⟩, by simp [intOf]; omega⟩
              · have hrn2 : r = n := by omega
                have r5 : ¬ ((r : Int) < n) := by omega
                have HQ2 : Hid (∀ b u, b < n → u < 125 → V' b u < w64 ∧ ∀ i, i < 64 → ((V' b u).testBit i = true ↔ (u < k + 1 ∧ Need g b ((64 * u + i : Nat) : Int)))) := Lib.hid (fun b u hb hu => by
                  rw [HE6.out b u]
                  by_cases e1 : u = k
                  · subst e1
                    rw [if_pos ⟨by omega, rfl⟩]
                    exact ⟨H3.out b, fun i hi => by rw [H2.out b i hb hi]; exact ⟨fun h => ⟨by omega, h⟩, fun h => h.2⟩⟩
                  · rw [if_neg (fun h => e1 h.2)]
                    refine ⟨(HQ.out b u hb hu).1, fun i hi => ?_⟩
                    rw [(HQ.out b u hb hu).2 i hi]
                    exact ⟨fun h => ⟨by omega, h.2⟩, fun h => ⟨by omega, h.2⟩⟩)
                clear HQ H2 H3 HE6
                go_wp2
                exact ⟨⟨k + 1, V', N5, F5, _, by omega, by go_num, HV6, HN6, HL6, HB6, HQ2⟩, by simp [intOf]; omega⟩
      · have hkK2 : k = K := by omega
        have k5 : ¬ ((k : Int) < K) := by omega
        go_wp2
        go_ret
        refine ⟨w.heap.size, V, rfl, HV.out, fun b wd hb hwd => ⟨(HQ.out b wd hb hwd).1, fun i hi => ?_⟩, HB2.out⟩
        rw [(HQ.out b wd hb hwd).2 i hi]
        refine ⟨fun h => h.2, fun h => ⟨?_, h⟩⟩
        have h1 := h.temp hf
        have h2 := HKT.out
        unfold belowB at h1
        simp only [Bool.and_eq_true, decide_eq_true_eq] at h1
        omega
end Go.Proofs.YtcijaaiopfbffaaDoor.Live
