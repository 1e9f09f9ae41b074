/- The machine's functions, laid. No condition. -/
import Derived.Test.YtjbiikbmbacjkaaDoorBs
import Derived.Test.YtjbiikbmbacjkaaDoorBt
import Derived.Deep.MidRow
namespace Go.Proofs.YtjbiikbmbacjkaaDoor.Emu
open Go.RowKit Go.Proofs.YtjbiikbmbacjkaaDoor.Enc Go.Proofs.YtjbiikbmbacjkaaDoor.Graph

theorem below_cellsE {B : Nat} {w : World} {b : Nat} (hb : B ≤ b) : ∀ (vs : List Value) (o : Nat) (w' : World), Below B w w' → Below B w (w'.setCells b o vs)
  | [], _, _, h => h
  | v :: vs, o, _w', h => below_cellsE hb vs (o + 1) _ (h.setCell (p := ⟨b, o, none⟩) hb v)
def worksL : List Value := [.nilFunc, .nilFunc, .nilFunc, .nilFunc, .nilFunc, .nilFunc, funV 51, funV 52, funV 53, funV 54, funV 55, funV 56, funV 57, funV 58, funV 59, funV 60, funV 61, funV 62, funV 63, funV 64, funV 66, funV 67, funV 69, funV 70, funV 71]
theorem worksL_length : worksL.length = 25 := rfl
theorem worksL_one : ∀ v ∈ worksL, v.oneCell' = true := by unfold worksL; simp [Value.oneCell']
theorem worksL_at : ∀ k, k < 19 → worksL.getD (k + 6) .nilFunc = funV (fOf k)
  | 0, _ => rfl
  | 1, _ => rfl
  | 2, _ => rfl
  | 3, _ => rfl
  | 4, _ => rfl
  | 5, _ => rfl
  | 6, _ => rfl
  | 7, _ => rfl
  | 8, _ => rfl
  | 9, _ => rfl
  | 10, _ => rfl
  | 11, _ => rfl
  | 12, _ => rfl
  | 13, _ => rfl
  | 14, _ => rfl
  | 15, _ => rfl
  | 16, _ => rfl
  | 17, _ => rfl
  | 18, _ => rfl
  | n + 19, hk => absurd hk (by omega)
set_option maxHeartbeats 4000000 in
set_option maxRecDepth 100000 in
theorem works_prog (w : World) : Calls Tryd.prog 32 #[] w fun e w' => e = .returned (.agg worksL.toArray) ∧ Below w.heap.size w w' := by
  go_enter Tryd.func32, Tryd.ntmps32
  go_upto_region 1 with (fail)
  have hn := heap_alloc_new w (.cells (Array.replicate 25 .nilFunc) 65)
  have hb := below_one w (.cells (Array.replicate 25 .nilFunc) 65)
  generalize hw1 : w.alloc (.cells (Array.replicate 25 .nilFunc) 65) = w1 at hn hb
  rw [show (#[.nilFunc, .nilFunc, .nilFunc, .nilFunc, .nilFunc, .nilFunc, .nilFunc, .nilFunc, .nilFunc, .nilFunc, .nilFunc, .nilFunc, .nilFunc, .nilFunc, .nilFunc, .nilFunc, .nilFunc, .nilFunc, .nilFunc, .nilFunc, .nilFunc, .nilFunc, .nilFunc, .nilFunc, .nilFunc] : Array Value) = Array.replicate 25 .nilFunc from rfl, hw1]
  have ht : w1.there w.heap.size 0 25 := fun j hj => by
    have h := cell_of_block hn (k := j) (v := .nilFunc) (by simp [hj])
    rw [Nat.zero_add]
    exact ⟨by rw [h.1]; rfl, h.2⟩
  have HB := Lib.hid hb
  obtain ⟨g, hg⟩ : ∃ g, g = w.heap.size := ⟨_, rfl⟩
  have HG := Lib.hid hg
  rw [← hg] at ht
  rw [← hg]
  clear hn hb hw1 hg
  go_wp2_with ((refine wpList_store_mid (by rfl) 65 _ _ (by rfl) g 0 _ (by rfl) (by rfl) (by exact ht) (by kernel_rfl) (by simp [Value.oneCell']) ?_))
  try simp only [Exit.inBlock, Exit.then]
  change bodyPost _ _ _ _ { tmps := #[.pointer (some ⟨g, 0, none⟩), .agg worksL.toArray], defers := [] } (w1.setCells g 0 worksL)
  have hr : (w1.setCells g 0 worksL).rangeAt g 0 worksL := World.rangeAt_setCells_same w1 g 0 worksL (by rw [worksL_length]; exact ht)
  have hld := run_loadVar_mid (P := Tryd.prog) (w1.setCells g 0 worksL) g 0 65 worksL _ hr Tryd.underlying65 rfl (by rw [worksL_length]; kernel_rfl)
  refine bodyPost_ret (v := .agg worksL.toArray) ?_ rfl ⟨rfl, below_cellsE (Nat.le_of_eq HG.out.symm) worksL 0 w1 HB.out⟩
  simp [results, Tryd.results32, asAddr, hld]
end Go.Proofs.YtjbiikbmbacjkaaDoor.Emu
