/- run's table of what instructions make of two words. -/
import Derived.Test.YthaombggdchgbaaRz
import Derived.Deep.MidRow

namespace Go.Proofs.Ythaombggdchgbaa.Graph
open Go.RowKit
theorem below_setCells {B : Nat} {w : World} {b : Nat} (hb : B ≤ b) : ∀ (vs : List Value) (o : Nat) (w' : World), Below B w w' → Below B w (w'.setCells b o vs)
  | [], _, _, h => h
  | v :: vs, o, _w', h => below_setCells hb vs (o + 1) _ (h.setCell (p := ⟨b, o, none⟩) hb v)
theorem there25 (w : World) (t : TypeId) : (w.alloc (.cells #[.nilFunc, .nilFunc, .nilFunc, .nilFunc, .nilFunc, .nilFunc, .nilFunc, .nilFunc, .nilFunc, .nilFunc, .nilFunc, .nilFunc, .nilFunc, .nilFunc, .nilFunc, .nilFunc, .nilFunc, .nilFunc, .nilFunc, .nilFunc, .nilFunc, .nilFunc, .nilFunc, .nilFunc, .nilFunc] t)).there w.heap.size 0 25 := fun j hj => by
  have hn := heap_new w (.cells (Array.replicate 25 .nilFunc) t)
  have h := cell_of_block hn (k := j) (v := .nilFunc) (by simp [hj])
  rw [Nat.zero_add]
  exact ⟨by rw [show (#[.nilFunc, .nilFunc, .nilFunc, .nilFunc, .nilFunc, .nilFunc, .nilFunc, .nilFunc, .nilFunc, .nilFunc, .nilFunc, .nilFunc, .nilFunc, .nilFunc, .nilFunc, .nilFunc, .nilFunc, .nilFunc, .nilFunc, .nilFunc, .nilFunc, .nilFunc, .nilFunc, .nilFunc, .nilFunc] : Array Value) = Array.replicate 25 .nilFunc from rfl, h.1]; rfl, h.2⟩
set_option maxHeartbeats 4000000 in
set_option maxRecDepth 100000 in
theorem works_any (w : World) : Calls Try.prog 74 #[] w fun e w' => ∃ cs : List Value, cs.length = 25 ∧ (∀ v ∈ cs, v.oneCell' = true) ∧ e = .returned (.agg cs.toArray) ∧ Below w.heap.size w w' := by
  go_enter Try.func74, Try.ntmps74
  go_upto_region 1 with (fail)
  have hn := heap_new w (.cells (Array.replicate 25 .nilFunc) 128)
  have hb := below_alloc w (.cells (Array.replicate 25 .nilFunc) 128)
  generalize hw1 : w.alloc (.cells (Array.replicate 25 .nilFunc) 128) = w1 at hn hb
  rw [show (#[.nilFunc, .nilFunc, .nilFunc, .nilFunc, .nilFunc, .nilFunc, .nilFunc, .nilFunc, .nilFunc, .nilFunc, .nilFunc, .nilFunc, .nilFunc, .nilFunc, .nilFunc, .nilFunc, .nilFunc, .nilFunc, .nilFunc, .nilFunc, .nilFunc, .nilFunc, .nilFunc, .nilFunc, .nilFunc] : Array Value) = Array.replicate 25 .nilFunc from rfl, hw1]
  have ht : w1.there w.heap.size 0 25 := fun j hj => by
    have h := cell_of_block hn (k := j) (v := .nilFunc) (by simp [hj])
    rw [Nat.zero_add]
    exact ⟨by rw [h.1]; rfl, h.2⟩
  have HB := Lib.hid hb
  obtain ⟨g, hg⟩ : ∃ g, g = w.heap.size := ⟨_, rfl⟩
  have HG := Lib.hid hg
  rw [← hg] at ht
  rw [← hg]
  clear hn hb hw1 hg
  go_wp2_with ((refine wpList_store_mid (by rfl) 128 _ _ (by rfl) g 0 _ (by rfl) (by rfl) (by exact ht) (by kernel_rfl) (by simp [Value.oneCell']) ?_))
  try simp only [Exit.inBlock, Exit.then]
  generalize hcs : ([.nilFunc, .nilFunc, .nilFunc, .nilFunc, .nilFunc, .nilFunc, _, _, _, _, _, _, _, _, _, _, _, _, _, _, _, _, _, _, _] : List Value) = cs
  have hlen : cs.length = 25 := by rw [← hcs]; rfl
  have hone : ∀ v ∈ cs, v.oneCell' = true := by rw [← hcs]; simp [Value.oneCell']
  have hr : (w1.setCells g 0 cs).rangeAt g 0 cs := World.rangeAt_setCells_same w1 g 0 cs (by rw [hlen]; exact ht)
  have hld := run_loadVar_mid (P := Try.prog) (w1.setCells g 0 cs) g 0 128 cs _ hr Try.underlying128 rfl (by rw [hlen]; kernel_rfl)
  clear hcs
  refine bodyPost_ret (v := .agg cs.toArray) ?_ rfl ⟨cs, hlen, hone, rfl, below_setCells (Nat.le_of_eq HG.out.symm) cs 0 w1 HB.out⟩
  simp [results, Try.results74, Act.put, asAddr, hld]
set_option maxHeartbeats 4000000 in
set_option maxRecDepth 100000 in
theorem chooser_any (w : World) : Calls Try.prog 55 #[] w fun e w' => ∃ (f : Fn) (a b : Array Value), e = .returned (.func f a b) ∧ Below w.heap.size w w' := by
  go_enter Try.func55, Try.ntmps55
  go_wp2_with (first
    | (go_at_call 74
       refine (works_any w).mono ?_
       rintro e w1 ⟨cs, hlen, hone, rfl, hb⟩
       have HB := Lib.hid hb)
    | (have hlater := HB
       refine wpList_store_mid (by rfl) 128 _ _ (by rfl) w1.heap.size 0 _ (by rfl) (by rfl) (by simpa [hlen] using there25 w1 128) (by simp only [List.size_toArray, hlen]; kernel_rfl) (all_oneCell_toArray hone) ?_))
  go_ret
  exact ⟨_, _, _, rfl, below_then HB.out (below_setCells (Nat.le_refl _) cs 0 _ (below_alloc w1 _))⟩
end Go.Proofs.Ythaombggdchgbaa.Graph
