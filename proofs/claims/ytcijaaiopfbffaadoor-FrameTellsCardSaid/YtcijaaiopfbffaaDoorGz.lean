/- The smallest facts of layer graph, where Check is out of reach. -/
import Derived.Test.YtcijaaiopfbffaaDoorMs
import Derived.Test.YtcijaaiopfbffaaDoorMo
import Derived.OneCell
import Derived.RegionDies
import Derived.StillTactics
import Derived.BigQuiet
import Derived.Deep.QuietTactic
import Derived.Deep.AppendLies
import Derived.Lib.SliceRun
import Derived.Laws.CopyOwn
import Derived.KernelRfl
import Derived.BigFrame
namespace Go.Proofs.YtcijaaiopfbffaaDoor.Graph
open Go.RowKit

/-- A call returns that, and leaves memory as it was, but for what it makes. -/
def Is (r : Value) (w : World) (e : Ending) (w' : World) : Prop := e = .returned r ∧ Below w.heap.size w w'
theorem below_drewN (w : World) (m : Nat) : Below w.heap.size w (w.drewN m) := ⟨rfl, rfl, rfl, Nat.le_refl _, fun _ _ => rfl⟩
theorem below_alloc (w : World) (o : Obj) : Below w.heap.size w (w.alloc o) := (Below.refl _ _).alloc (Nat.le_refl _) _
theorem below_any (i n : Int) (w : World) : Calls Tryd.prog 69 #[.int .i64 i, .int .i64 n] w fun e w' => e = .returned (.bool (belowB i n)) ∧ w' = w := by
  go_enter Tryd.func69, Tryd.ntmps69
  go_wp2
  all_goals (go_ret; exact ⟨by congr 2; simp [belowB]; omega, rfl⟩)
theorem rbelow_any (i n : Int) (w : World) : Calls Tryd.prog 38 #[.int .i64 i, .int .i64 n] w fun e w' => e = .returned (.bool (belowB i n)) ∧ w' = w := by
  go_enter Tryd.func38, Tryd.ntmps38
  go_wp2
  all_goals (go_ret; exact ⟨by congr 2; simp [belowB]; omega, rfl⟩)
theorem drewN_zero (w : World) : w = w.drewN 0 := rfl
theorem rbelow_q (i n : Int) (w : World) : Calls Tryd.prog 38 #[.int .i64 i, .int .i64 n] w fun e w' => e = .returned (.bool (belowB i n)) ∧ ∃ m, w' = w.drewN m :=
  (rbelow_any i n w).mono fun _ _ h => ⟨h.1, 0, h.2.trans (drewN_zero w)⟩
theorem below_q (i n : Int) (w : World) : Calls Tryd.prog 69 #[.int .i64 i, .int .i64 n] w fun e w' => e = .returned (.bool (belowB i n)) ∧ ∃ m, w' = w.drewN m :=
  (below_any i n w).mono fun _ _ h => ⟨h.1, 0, h.2.trans (drewN_zero w)⟩
theorem getN {α : Type} {l : List α} {n k : Nat} (hn : n = l.length) (hk : k < n) : ∃ t, l[k]? = some t := ⟨_, List.getElem?_eq_getElem (by rw [← hn]; exact hk)⟩
theorem below2 (w : World) (a b : Obj) : Below w.heap.size w ((w.alloc a).alloc b) := (below_alloc w a).alloc (below_alloc w a).size b
theorem below_then {w w2 w3 : World} (h : Below w.heap.size w w2) (k : Below w2.heap.size w2 w3) : Below w.heap.size w w3 := h.trans (k.mono h.size)
theorem info_int : (Tryd.prog.info? 3).map (fun i => (i.zero, i.size, i.bytes)) = some (some (.int .i64 0), 1, 8) := by kernel_rfl
theorem info_parts {P : Program} {t : TypeId} {z : Value} {s b : Nat} (h : (P.info? t).map (fun i => (i.zero, i.size, i.bytes)) = some (some z, s, b)) : ∃ i, P.info? t = some i ∧ i.zero = some z ∧ i.size = s ∧ i.bytes = b := by
  obtain ⟨i, h1, h2⟩ := Option.map_eq_some_iff.1 h
  injection h2 with h2 h3
  injection h3 with h3 h4
  exact ⟨i, h1, h2, h3, h4⟩
theorem heap_new (w : World) (o : Obj) : (w.alloc o).heap[w.heap.size]? = some o := by unfold World.alloc; exact Array.getElem?_push_size
theorem row_below {w w' : World} {B : Nat} {e : TypeId} {size : Nat} {v : Value} {n : Nat} {xs : List Value} (h : w.ownsRow B e size v n xs) (hx : Below w.heap.size w w') : w'.ownsRow B e size v n xs := by
  obtain ⟨h1, h2⟩ := h
  refine ⟨h1, ?_⟩
  rcases h2 with h2 | ⟨g, cap, cur, h3, h4, h5, h6⟩
  · exact .inl h2
  · refine .inr ⟨g, cap, cur, h3, h4, ?_, h6⟩
    have hg : g < w.heap.size := by
      rcases Nat.lt_or_ge g w.heap.size with h | h
      · exact h
      · rw [Array.getElem?_eq_none h] at h5; cases h5
    rw [hx.block g hg]; exact h5
theorem add_none (b o j : Nat) : (⟨b, o, none⟩ : Addr).add j = ⟨b, o + j, none⟩ := by unfold Addr.add; split <;> simp_all
theorem lt_of_block {w : World} {g : Nat} {o : Obj} (hg : w.heap[g]? = some o) : g < w.heap.size := by
  rcases Nat.lt_or_ge g w.heap.size with h | h
  · exact h
  · rw [Array.getElem?_eq_none h] at hg; cases hg
theorem cell_of_block {w : World} {b : Nat} {cs : Array Value} {t : TypeId} (h : w.heap[b]? = some (.cells cs t (0, 0))) {k : Nat} {v : Value} (hk : cs[k]? = some v) : w.cell? ⟨b, k, none⟩ = some v ∧ w.frozen? ⟨b, k, none⟩ = false := by
  constructor
  · simp [World.cell?, h, hk]
  · simp [World.frozen?, h]
/-- A block's ten cells. -/
def BlkC (w : World) (b o : Nat) (x : PBlk) (vk vc vt : Value) : Prop :=
  w.cell? ⟨b, o, none⟩ = some vk ∧ w.cell? ⟨b, o + 1, none⟩ = some (.int .i64 x.fin.kind) ∧ w.cell? ⟨b, o + 2, none⟩ = some (.int .i64 x.fin.op) ∧ w.cell? ⟨b, o + 3, none⟩ = some (.int .i64 x.fin.a) ∧
  w.cell? ⟨b, o + 4, none⟩ = some (.int .i64 x.fin.b) ∧ w.cell? ⟨b, o + 5, none⟩ = some (.int .u32 x.fin.n) ∧ w.cell? ⟨b, o + 6, none⟩ = some (.int .i64 x.fin.to) ∧ w.cell? ⟨b, o + 7, none⟩ = some (.int .i64 x.fin.els) ∧
  w.cell? ⟨b, o + 8, none⟩ = some vc ∧ w.cell? ⟨b, o + 9, none⟩ = some vt
theorem BlkR.cells {w : World} {b o : Nat} {x : PBlk} {vk vc vt : Value} (h : BlkR w b o x vk vc vt) : BlkC w b o x vk vc vt :=
  ⟨h.ck, h.fin.kind, h.fin.op, h.fin.fa, h.fin.fb, h.fin.n, h.fin.to, h.fin.els, h.fin.cc, h.fin.ct⟩
/-- A block of a list, in a later world. -/
theorem blk_at {w wr : World} {g o cap n : Nat} {l : List PBlk} (h : BlksR w (.slice (some ⟨g, o, none⟩) n cap) l) (hb : Below w.heap.size w wr) {k : Nat} {t : PBlk} (ht : l[k]? = some t) :
    ∃ pk ck pc cc pt ct, BlkC wr g (o + k * 10) t (.slice pk t.code.length ck) (.slice pc t.fin.cases.length cc) (.slice pt t.fin.targets.length ct) ∧
      CodeR wr (.slice pk t.code.length ck) t.code ∧ EndL wr (.slice pc t.fin.cases.length cc) (.slice pt t.fin.targets.length ct) t.fin ∧ g < wr.heap.size := by
  have hk : k < l.length := by
    rcases Nat.lt_or_ge k l.length with h | h
    · exact h
    · rw [List.getElem?_eq_none h] at ht; cases ht
  obtain ⟨h1, h2⟩ := SlR.at_ h hk
  obtain ⟨vk, vc, vt, h3⟩ := h1 t ht
  replace h3 := h3.below h2 hb
  obtain ⟨pk, ck, rfl⟩ := h3.code.form
  obtain ⟨pc, cc, rfl⟩ := h3.fin.l.cases.form
  obtain ⟨pt, ct, rfl⟩ := h3.fin.l.targets.form
  exact ⟨pk, ck, pc, cc, pt, ct, h3.cells, h3.code, h3.fin.l, Nat.lt_of_lt_of_le h2 hb.size⟩
end Go.Proofs.YtcijaaiopfbffaaDoor.Graph
