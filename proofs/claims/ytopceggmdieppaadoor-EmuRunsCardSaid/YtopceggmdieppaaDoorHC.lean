/- A memory laid: pages of what data there is. No condition but that there is room. -/
import Derived.Test.YtopceggmdieppaaDoorHA
import Derived.Laws.CopyOwn
import Derived.Test.YtopceggmdieppaaDoorBs
import Derived.Deep.MidRow
import Derived.Lib.SliceRun
import Derived.Deep.RegionHeld3
namespace Go.Proofs.YtopceggmdieppaaDoor.Emu
open Go.RowKit Go.Proofs.YtopceggmdieppaaDoor.Enc Go.Proofs.YtopceggmdieppaaDoor.Graph

def memL (d : List Int) : List Int := d ++ List.replicate (524288 - d.length) 0
theorem memL_getD (d : List Int) (i : Nat) : (memL d).getD i 0 = d.getD i 0 := by
  unfold memL
  rw [List.getD_eq_getElem?_getD, List.getD_eq_getElem?_getD]
  by_cases h : i < d.length
  · rw [List.getElem?_append_left h]
  · rw [List.getElem?_append_right (by omega), List.getElem?_eq_none (l := d) (by omega), List.getElem?_replicate]
    split <;> rfl
theorem take_getD (d : List Int) (n i : Nat) : (d.take n).getD i 0 = if i < n then d.getD i 0 else 0 := by
  rw [List.getD_eq_getElem?_getD, List.getD_eq_getElem?_getD, List.getElem?_take]
  split <;> rfl
theorem memL_length {d : List Int} (h : d.length ≤ 524288) : (memL d).length = 524288 := by
  unfold memL
  rw [List.length_append, List.length_replicate]; omega
theorem WordsR.drop {w : World} {b o c : Nat} {l : List Int} (h : WordsR w (.slice (some ⟨b, o, none⟩) l.length c) l) (m : Nat) (hm : m ≤ l.length) : WordsR w (.slice (if c = m then some ⟨b, o, none⟩ else some ⟨b, o + m, none⟩) (l.length - m) (c - m)) (l.drop m) := by
  unfold WordsR
  rw [List.length_drop]
  by_cases h0 : l.length - m = 0
  · rw [h0]; exact .inl ⟨rfl, _, _, rfl⟩
  · obtain ⟨b', o', c', h1, h2, h3, h4⟩ := SlR.form2 h (by omega)
    injection h1 with h1 _ h5
    injection h1 with h1
    injection h1 with h1 h6
    subst h1 h5 h6
    rw [if_neg (by omega)]
    refine .inr ⟨b, o + m, c - m, rfl, by omega, by omega, h3, fun i hi x hx => ?_⟩
    rw [List.getElem?_drop] at hx
    have := h4 (m + i) (by omega) x hx
    rw [show o + m + i * 1 = o + (m + i) * 1 by omega]
    exact this
/-- A page more. -/
theorem MemR.more {w W : World} {mm : Nat} {pg : Nat → Option Nat} {l0 l1 : List Int} (h : MemR w mm pg l0) {k g : Nat} (hk : k < 128) (hpg : pg k = none) (hg0 : w.heap.size ≤ g) (ts : Array Value) (hmm : W.heap[mm]? = some (.cells ts 134 (0, 0))) (hts : ts.size = 128)
    (hta : ∀ i, i < 128 → ts[i]? = some (.pointer ((if i = k then some g else pg i).map fun g => ⟨g, 0, none⟩)))
    (cs : Array Value) (hg : W.heap[g]? = some (.cells cs 136 (0, 0))) (hsz : cs.size = 4096) (hc : ∀ j, j < 4096 → cs[j]? = some (.int .u32 (l1.getD (4096 * k + j) 0))) (hl : ∀ i j, i < 128 → j < 4096 → i ≠ k → l1.getD (4096 * i + j) 0 = l0.getD (4096 * i + j) 0)
    (ho : ∀ b, b < w.heap.size → b ≠ mm → W.heap[b]? = w.heap[b]?) : MemR W mm (fun i => if i = k then some g else pg i) l1 := by
  have hlt : mm < w.heap.size := by
    obtain ⟨cs, h1, _⟩ := h.tab
    exact lt_of_block h1
  refine ⟨⟨ts, hmm, hts, hta⟩, fun i hi hn j hj => ?_, fun i g' hi hg' => ?_, fun i j g' hi hj h1 h2 => ?_, fun i g' hi h1 => ?_⟩
  · by_cases e : i = k
    · rw [if_pos e] at hn; cases hn
    · rw [if_neg e] at hn; rw [hl i j hi hj e]; exact h.none_ i hi hn j hj
  · by_cases e : i = k
    · rw [if_pos e] at hg'
      injection hg' with hg'
      subst hg' e
      exact ⟨cs, hg, hsz, hc⟩
    · rw [if_neg e] at hg'
      obtain ⟨cs2, j1, j2, j3⟩ := h.some_ i g' hi hg'
      exact ⟨cs2, (ho g' (lt_of_block j1) (h.off i g' hi hg')).trans j1, j2, fun j hj => by rw [hl i j hi hj e]; exact j3 j hj⟩
  · by_cases e : i = k
    · by_cases e2 : j = k
      · rw [e, e2]
      · rw [if_pos e] at h1; rw [if_neg e2] at h2
        injection h1 with h1
        have := h.lt hj h2; omega
    · by_cases e2 : j = k
      · rw [if_neg e] at h1; rw [if_pos e2] at h2
        injection h2 with h2
        have := h.lt hi h1; omega
      · rw [if_neg e] at h1; rw [if_neg e2] at h2
        exact h.one i j g' hi hj h1 h2
  · by_cases e : i = k
    · rw [if_pos e] at h1
      injection h1 with h1
      omega
    · rw [if_neg e] at h1; exact h.off i g' hi h1
theorem addO (b o j : Nat) : Addr.add ⟨b, o, none⟩ j = ⟨b, o + j, none⟩ := by
  simp only [Addr.add]
  split <;> simp_all
def pageV (d : List Int) (k : Nat) : List Value := ((d.drop (4096 * k)).take 4096).map fun v => Value.int .u32 v
theorem pageV_length (d : List Int) (k : Nat) : (pageV d k).length = Nat.min (d.drop (4096 * k)).length 4096 := by rw [pageV, List.length_map, List.length_take, Nat.min_comm]
theorem pageV_at (d : List Int) (k j : Nat) (v : Value) (h : (pageV d k)[j]? = some v) : ∃ y, (d.drop (4096 * k))[j]? = some y ∧ v = .int .u32 y := by
  rw [pageV, List.getElem?_map, List.getElem?_take] at h
  split at h
  · cases hy : (d.drop (4096 * k))[j]? with
    | none => rw [hy] at h; cases h
    | some y =>
      rw [hy] at h
      exact ⟨y, rfl, by injection h with h; exact h.symm⟩
  · cases h
noncomputable def pageX (d : List Int) (k : Nat) : Array Value := (pageV d k ++ Tryd.zeroCells136.toList.drop (pageV d k).length).toArray
theorem zlen : Tryd.zeroCells136.toList.length = 4096 := Tryd.zeroCells136_size
theorem pageX_size (d : List Int) (k : Nat) : (pageX d k).size = 4096 := by
  have h1 : (pageV d k).length ≤ 4096 := by rw [pageV_length]; exact Nat.min_le_right _ _
  have h2 := zlen
  unfold pageX
  rw [List.size_toArray, List.length_append, List.length_drop, h2]
  omega
theorem pageX_at (d : List Int) (k j : Nat) (hj : j < 4096) : (pageX d k)[j]? = some (.int .u32 (d.getD (4096 * k + j) 0)) := by
  have h1 := pageV_length d k
  unfold pageX
  rw [List.getElem?_toArray]
  by_cases h : j < (pageV d k).length
  · rw [List.getElem?_append_left h]
    obtain ⟨y, hy, he⟩ := pageV_at d k j _ (List.getElem?_eq_getElem h)
    rw [List.getElem?_eq_getElem h, he]
    rw [List.getElem?_drop] at hy
    rw [List.getD_eq_getElem?_getD, hy]
    rfl
  · rw [List.getElem?_append_right (by omega), List.getElem?_drop, show (pageV d k).length + (j - (pageV d k).length) = j by omega]
    have h2 : d.length ≤ 4096 * k + j := by
      have h3 : Nat.min (d.drop (4096 * k)).length 4096 = (d.drop (4096 * k)).length ∨ Nat.min (d.drop (4096 * k)).length 4096 = 4096 := by
        rcases Nat.le_total (d.drop (4096 * k)).length 4096 with h | h
        · exact .inl (Nat.min_eq_left h)
        · exact .inr (Nat.min_eq_right h)
      have h4 := List.length_drop (i := 4096 * k) (l := d)
      omega
    rw [List.getD_eq_getElem?_getD, List.getElem?_eq_none h2]
    have := zero_page hj
    rw [← Array.getElem?_toList] at this
    exact this
theorem drop_next (d : List Int) (k : Nat) : (d.drop (4096 * k)).drop (pageV d k).length = d.drop (4096 * (k + 1)) := by
  rw [List.drop_drop, pageV_length]
  have h4 := List.length_drop (i := 4096 * k) (l := d)
  rcases Nat.le_total (d.drop (4096 * k)).length 4096 with h | h
  · rw [show Nat.min (d.drop (4096 * k)).length 4096 = (d.drop (4096 * k)).length from Nat.min_eq_left h, List.drop_eq_nil_of_le (by omega), List.drop_eq_nil_of_le (by omega)]
  · rw [show Nat.min (d.drop (4096 * k)).length 4096 = 4096 from Nat.min_eq_right h]
    congr 1
theorem take_next (d : List Int) (k i j : Nat) (hj : j < 4096) (hi : i ≠ k) : (memL (d.take (4096 * (k + 1)))).getD (4096 * i + j) 0 = (memL (d.take (4096 * k))).getD (4096 * i + j) 0 := by
  rw [memL_getD, memL_getD, take_getD, take_getD]
  by_cases h : i < k
  · rw [if_pos (by omega), if_pos (by omega)]
  · rw [if_neg (by omega), if_neg (by omega)]
def MemPost (w : World) (d : List Int) (e : Ending) (w2 : World) : Prop :=
  ∃ mm pg, e = .returned (.pointer (some ⟨mm, 0, none⟩)) ∧ MemR w2 mm pg (memL d) ∧ w.heap.size ≤ mm ∧ (∀ i g, i < 128 → pg i = some g → w.heap.size ≤ g) ∧ Below w.heap.size w w2
def isPN : Value → Bool
  | .pointer none => true
  | _ => false
theorem isPN_eq {v : Value} (h : isPN v = true) : v = .pointer none := by
  unfold isPN at h
  split at h
  · rfl
  · cases h
theorem nils_all : Tryd.zeroCells134.toList.all isPN = true := by kernel_rfl
theorem nils_at {j : Nat} (hj : j < 128) : Tryd.zeroCells134[j]? = some (.pointer none) := by
  have h1 : j < Tryd.zeroCells134.size := by rw [Tryd.zeroCells134_size]; exact hj
  rw [Array.getElem?_eq_getElem h1, isPN_eq (List.all_eq_true.1 nils_all _ (Array.getElem_mem_toList h1))]
theorem MemR.new (w : World) : MemR (w.alloc (.cells Tryd.zeroCells134 134)) w.heap.size (fun _ => none) (memL []) := by
  refine ⟨⟨_, heap_alloc_new w _, Tryd.zeroCells134_size, fun i hi => nils_at hi⟩, fun i hi _ j hj => ?_, fun i g _ h => (by cases h), fun i j g _ _ h _ => (by cases h), fun i g _ h => (by cases h)⟩
  rw [memL_getD]; rfl
set_option maxHeartbeats 4000000 in
set_option maxRecDepth 100000 in
theorem newMemory_prog (w : World) (vd : Value) (d : List Int) (h : WordsR w vd d) (hl : d.length ≤ 524288) :
    Calls Tryd.prog 64 #[vd] w (MemPost w d) := by
  have HD := Lib.hid h
  have HL := Lib.hid hl
  have HW := Lib.hid (MemR.new w)
  clear h hl
  go_enter Tryd.func64, Tryd.ntmps64
  go_wp2
  go_loopw [0, 4] (fun v i wr => ∃ k : Nat, i = .int .i64 k ∧ k ≤ 128 ∧ Hid (4096 * k < d.length + 4096) ∧ ∃ pg, Hid (WordsR w v (d.drop (4096 * k))) ∧ Hid (MemR wr w.heap.size pg (memL (d.take (4096 * k)))) ∧ Hid ((∀ i, k ≤ i → pg i = none) ∧ ∀ i g, i < 128 → pg i = some g → w.heap.size ≤ g) ∧ Hid (Below w.heap.size w wr)) (fun _ i _ => 128 - (intOf i).toNat)
  case atStart => exact ⟨0, rfl, by omega, Lib.hid (by omega), _, HD, HW, Lib.hid ⟨fun _ _ => rfl, fun _ _ _ h => by cases h⟩, Lib.hid (below_one _ _)⟩
  case round =>
    obtain ⟨k, rfl, hk, HK, pg, HWd, HM, HPg, HB⟩ := hrel
    by_cases h0 : d.length ≤ 4096 * k
    · have e0 : d.drop (4096 * k) = [] := List.drop_eq_nil_of_le h0
      have e1 : d.take (4096 * k) = d := List.take_of_length_le h0
      rw [e1] at HM
      have hw := HWd.out
      rw [e0] at hw
      obtain ⟨p, c, rfl⟩ := SlR.form hw
      have HE := Lib.hid e0
      clear hw h0 e0 e1 hk HWd
      go_wp2
      go_ret
      exact ⟨_, pg, rfl, HM.out, Nat.le_refl _, HPg.out.2, HB.out⟩
    · have hkl : k < 128 := by have := HL.out; omega
      have hln : 0 < (d.drop (4096 * k)).length := by rw [List.length_drop]; omega
      have hww := HWd.out
      obtain ⟨b, o, c, rfl, hc, hb, hat⟩ := SlR.form2 hww hln
      obtain ⟨ts, t1, t2, t3⟩ := HM.out.tab
      have t4 := t3 k hkl
      rw [HPg.out.1 k (Nat.le_refl _)] at t4
      obtain ⟨cm, fm⟩ := cell_of_block t1 t4
      have hmm := lt_of_block t1
      have hki : (k : Int) < 128 := by omega
      have hgm : w.heap.size ≠ wr.heap.size := Nat.ne_of_lt hmm
      have hq2 : (pageV d k).length ≤ (d.drop (4096 * k)).length := by rw [pageV_length]; exact Nat.min_le_left _ _
      have hq3 : (pageV d k).length ≤ 4096 := by rw [pageV_length]; exact Nat.min_le_right _ _
      have hone : ∀ v ∈ pageV d k, v.oneCell' = true := fun v hv => by
        rw [pageV] at hv
        obtain ⟨y, _, rfl⟩ := List.mem_map.1 hv
        rfl
      have hq1 := pageV_length d k
      have HX := Lib.hid (And.intro hone (And.intro hq3 hq1))
      let W0 := (wr.setCell ⟨w.heap.size, k, none⟩ (.pointer (some ⟨wr.heap.size, 0, none⟩))).alloc (.cells Tryd.zeroCells136 136)
      have F1 : W0.heap[wr.heap.size]? = some (.cells Tryd.zeroCells136 136 (0, 0)) := by
        have := heap_alloc_new (wr.setCell ⟨w.heap.size, k, none⟩ (.pointer (some ⟨wr.heap.size, 0, none⟩))) (.cells Tryd.zeroCells136 136)
        rw [World.size_setCell] at this
        exact this
      have F2 : W0.heap[w.heap.size]? = some (.cells (ts.setIfInBounds k (.pointer (some ⟨wr.heap.size, 0, none⟩))) 134 (0, 0)) := (Below.heap_alloc _ _ _ (by rw [World.size_setCell]; exact hmm)).trans (heap_setCell_same wr w.heap.size k _ _ _ t1)
      have F3 : ∀ bb, bb < wr.heap.size → bb ≠ w.heap.size → W0.heap[bb]? = wr.heap[bb]? := fun bb h1 h2 => (Below.heap_alloc _ _ _ (by rw [World.size_setCell]; exact h1)).trans (heap_setCell_other wr ⟨w.heap.size, k, none⟩ bb _ h2)
      have F4 : W0.heap.size = wr.heap.size + 1 := by
        show (World.alloc _ _).heap.size = _
        rw [World.size_alloc, World.size_setCell]
      have F5 : Below w.heap.size w W0 := (HB.out.setCell (p := ⟨w.heap.size, k, none⟩) (Nat.le_refl _) _).alloc (by rw [World.size_setCell]; omega) _
      have c2 := (cell_of_block F2 (by rw [Array.getElem?_setIfInBounds_self_of_lt (by omega)])).1
      have hsrc : ∀ j v, (pageV d k)[j]? = some v → W0.cell? (Addr.add ⟨b, o, none⟩ j) = some v := fun j v hj => by
        obtain ⟨y, hy, rfl⟩ := pageV_at d k j v hj
        have h9 := hat j (List.getElem?_eq_some_iff.1 hy).1 y hy
        rw [Nat.mul_one] at h9
        rw [addO, F5.cell (p := ⟨b, o + j, none⟩) hb]
        exact h9
      have HSR := Lib.hid hsrc
      have HT := Lib.hid (And.intro t1 (And.intro t2 t3))
      have hq4 : (((pageV d k).length : Nat) : Int) ≤ ((d.drop (4096 * k)).length : Int) := by omega
      have hq5 : (((pageV d k).length : Nat) : Int) ≤ (c : Int) := by omega
      have HKL := Lib.hid (And.intro hkl h0)
      have HF := Lib.hid (And.intro F1 (And.intro F2 (And.intro F3 (And.intro F4 F5))))
      have hfit : 0 + (pageV d k).length ≤ Tryd.zeroCells136.size := by rw [Tryd.zeroCells136_size]; omega
      have HFI := Lib.hid hfit
      have HWN := Lib.hid (WordsR.drop hww _ hq2)
      rw [drop_next] at HWN
      have hc1 := hc.1
      clear t1 t2 t3 t4 hsrc hone hq1 hat hk hkl h0 hc hq2 hq3 hww F1 F2 F3 F4 F5 hfit
      generalize hn : (d.drop (4096 * k)).length = n at *
      go_upto_region 6 with (fail)
      change Code.wp _ _ _ _ W0
      have HN := Lib.hid hn
      clear hn cm fm
      obtain ⟨cs, hcs⟩ : ∃ cs, cs = pageV d k := ⟨_, rfl⟩
      rw [← hcs] at HX HSR HFI hq4 hq5 HWN
      have HCS := Lib.hid hcs
      clear hcs
      clear_value W0
      go_wp2_with ((refine wpList_copy_own rfl (.tmp 23) (.tmp 24) 24 24 rfl 37 Tryd.underlying24 (by kernel_rfl) wr.heap.size 0 4096 4096 ⟨b, o, none⟩ n c rfl rfl Tryd.zeroCells136 136 HF.out.1 cs HX.out.2.2 HSR.out HFI.out HX.out.1 ?_))
      obtain ⟨hkl, h0⟩ := HKL.out
      obtain ⟨t1, t2, t3⟩ := HT.out
      obtain ⟨F1, F2, F3, F4, F5⟩ := HF.out
      have hX : (cs ++ Tryd.zeroCells136.toList.drop cs.length).toArray = pageX d k := by unfold pageX; rw [← HCS.out]
      rw [hX]
      refine ⟨⟨k + 1, by rw [show ((k + 1 : Nat) : Int) = (k : Int) + 1 by omega], by omega, Lib.hid (by omega), fun i => if i = k then some wr.heap.size else pg i, HWN, Lib.hid ?_, Lib.hid ⟨fun i hi => ?_, fun i g hi hg => ?_⟩, Lib.hid ?_⟩, by simp [intOf]; omega⟩
      · refine HM.out.more hkl (HPg.out.1 k (Nat.le_refl _)) (Nat.le_refl _) (ts.setIfInBounds k (.pointer (some ⟨wr.heap.size, 0, none⟩))) ?_ (by simpa using t2) (fun i hi => ?_) (pageX d k) (setRow_heap _ _ _ _ _ _ F1) (pageX_size d k) (fun j hj => ?_) (fun i j _ hj hi => take_next d k i j hj hi) (fun bb h1 h2 => ?_)
        · rw [setRow_other _ _ _ _ hgm]; exact F2
        · by_cases e : i = k
          · subst e; rw [Array.getElem?_setIfInBounds_self_of_lt (by omega), if_pos rfl]; rfl
          · rw [Array.getElem?_setIfInBounds_ne (fun e' => e e'.symm), if_neg e]; exact t3 i hi
        · rw [pageX_at d k j hj, memL_getD, take_getD, if_pos (by omega)]
        · rw [setRow_other _ _ _ _ (by omega)]; exact F3 bb h1 h2
      · have e : i ≠ k := by omega
        simp only [if_neg e]
        exact HPg.out.1 i (by omega)
      · change (if i = k then some wr.heap.size else pg i) = some g at hg
        by_cases e : i = k
        · rw [if_pos e] at hg
          injection hg with hg
          omega
        · rw [if_neg e] at hg
          exact HPg.out.2 i g hi hg
      · exact below_setRow F5 (by omega) _
end Go.Proofs.YtopceggmdieppaaDoor.Emu
namespace Go.Proofs.YtopceggmdieppaaDoor.Emu
open Go.RowKit Go.Proofs.YtopceggmdieppaaDoor.Enc Go.Proofs.YtopceggmdieppaaDoor.Graph

theorem below_cellsE {B : Nat} {w : World} {b : Nat} (hb : B ≤ b) : ∀ (vs : List Value) (o : Nat) (w' : World), Below B w w' → Below B w (w'.setCells b o vs)
  | [], _, _, h => h
  | v :: vs, o, _w', h => below_cellsE hb vs (o + 1) _ (h.setCell (p := ⟨b, o, none⟩) hb v)
def worksL : List Value := [.nilFunc, .nilFunc, .nilFunc, .nilFunc, .nilFunc, .nilFunc, funV 86, funV 87, funV 88, funV 89, funV 90, funV 91, funV 92, funV 93, funV 94, funV 95, funV 96, funV 97, funV 98, funV 99, funV 101, funV 102, funV 104, funV 105, funV 106]
theorem worksL_length : worksL.length = 25 := rfl
theorem worksL_one : ∀ v ∈ worksL, v.oneCell' = true := by unfold worksL; simp [Value.oneCell']
theorem worksL_at : ∀ k, k < 19 → worksL.getD (k + 6) .nilFunc = funV (fOf k)
  | 0, _ => rfl
  | 1, _ => rfl
  | 2, _ => rfl
  | 3, _ => rfl
  | 4, _ => rfl
  | 5, _ => rfl
  | 6, _ => rfl
  | 7, _ => rfl
  | 8, _ => rfl
  | 9, _ => rfl
  | 10, _ => rfl
  | 11, _ => rfl
  | 12, _ => rfl
  | 13, _ => rfl
  | 14, _ => rfl
  | 15, _ => rfl
  | 16, _ => rfl
  | 17, _ => rfl
  | 18, _ => rfl
  | n + 19, hk => absurd hk (by omega)
set_option maxHeartbeats 4000000 in
set_option maxRecDepth 100000 in
theorem works_prog (w : World) : Calls Tryd.prog 65 #[] w fun e w' => e = .returned (.agg worksL.toArray) ∧ Below w.heap.size w w' := by
  go_enter Tryd.func65, Tryd.ntmps65
  go_upto_region 1 with (fail)
  have hn := heap_alloc_new w (.cells (Array.replicate 25 .nilFunc) 96)
  have hb := below_one w (.cells (Array.replicate 25 .nilFunc) 96)
  generalize hw1 : w.alloc (.cells (Array.replicate 25 .nilFunc) 96) = w1 at hn hb
  rw [show (#[.nilFunc, .nilFunc, .nilFunc, .nilFunc, .nilFunc, .nilFunc, .nilFunc, .nilFunc, .nilFunc, .nilFunc, .nilFunc, .nilFunc, .nilFunc, .nilFunc, .nilFunc, .nilFunc, .nilFunc, .nilFunc, .nilFunc, .nilFunc, .nilFunc, .nilFunc, .nilFunc, .nilFunc, .nilFunc] : Array Value) = Array.replicate 25 .nilFunc from rfl, hw1]
  have ht : w1.there w.heap.size 0 25 := fun j hj => by
    have h := cell_of_block hn (k := j) (v := .nilFunc) (by simp [hj])
    rw [Nat.zero_add]
    exact ⟨by rw [h.1]; rfl, h.2⟩
  have HB := Lib.hid hb
  obtain ⟨g, hg⟩ : ∃ g, g = w.heap.size := ⟨_, rfl⟩
  have HG := Lib.hid hg
  rw [← hg] at ht
  rw [← hg]
  clear hn hb hw1 hg
  go_wp2_with ((refine wpList_store_mid (by rfl) 96 _ _ (by rfl) g 0 _ (by rfl) (by rfl) (by exact ht) (by kernel_rfl) (by simp [Value.oneCell']) ?_))
  try simp only [Exit.inBlock, Exit.then]
  change bodyPost _ _ _ _ { tmps := #[.pointer (some ⟨g, 0, none⟩), .agg worksL.toArray], defers := [] } (w1.setCells g 0 worksL)
  have hr : (w1.setCells g 0 worksL).rangeAt g 0 worksL := World.rangeAt_setCells_same w1 g 0 worksL (by rw [worksL_length]; exact ht)
  have hld := run_loadVar_mid (P := Tryd.prog) (w1.setCells g 0 worksL) g 0 96 worksL _ hr Tryd.underlying96 rfl (by rw [worksL_length]; kernel_rfl)
  refine bodyPost_ret (v := .agg worksL.toArray) ?_ rfl ⟨rfl, below_cellsE (Nat.le_of_eq HG.out.symm) worksL 0 w1 HB.out⟩
  simp [results, Tryd.results65, asAddr, hld]
end Go.Proofs.YtopceggmdieppaaDoor.Emu
namespace Go.Proofs.YtopceggmdieppaaDoor.Emu
open Go.RowKit Go.Proofs.YtopceggmdieppaaDoor.Enc Go.Proofs.YtopceggmdieppaaDoor.Graph

theorem info_ins : (Tryd.prog.info? 120).map (fun i => (i.zero, i.size, i.bytes)) = some (some (.agg #[.int .u8 0, .int .u8 0, .int .u8 0, .int .i32 0]), 4, 8) := by kernel_rfl
abbrev zsA (n : Nat) : Array Value := madeCells #[.int .u8 0, .int .u8 0, .int .u8 0, .int .i32 0] (n * 4)
theorem make_ins (n : Nat) (h : n ≤ 65536) (w : World) : (Instr.makeSlice 88 (.int .i64 (n : Int)) (.int .i64 (n : Int))).run Tryd.prog w = .ok (.slice (some ⟨w.heap.size, 0, none⟩) n n) (w.alloc (.cells (zsA n) 120)) := by
  obtain ⟨i, hi, hzz⟩ := Option.map_eq_some_iff.1 info_ins
  simp only [Prod.mk.injEq] at hzz
  obtain ⟨hz, hs, hb⟩ := hzz
  have hb' : (i.bytes : Int) * (n : Int) ≤ 281474976710656 := by rw [hb]; omega
  have hr := run_make (P := Tryd.prog) w 88 120 i _ Tryd.underlying88 hi hz .i64 .i64 n n (by omega) (Int.le_refl _) hb' (by omega)
  simp only [Int.toNat_natCast, hs] at hr
  exact hr
theorem zsA_size (n : Nat) : (zsA n).size = n * 4 := size_madeCells _ _
theorem zsA_at (n j c : Nat) (hj : j < n) (hc : c < 4) : (zsA n)[4 * j + c]? = some ((#[.int .u8 0, .int .u8 0, .int .u8 0, .int .i32 0] : Array Value)[c]!) := by
  unfold zsA madeCells
  rw [Array.getElem?_map, Array.getElem?_range, if_pos (by omega)]
  show some ((#[.int .u8 0, .int .u8 0, .int .u8 0, .int .i32 0] : Array Value)[(4 * j + c) % 4]!) = _
  rw [show (4 * j + c) % 4 = c by omega]
abbrev machA (vw : Value) (n lb mm : Nat) (inp : ByteArray) (entry : Int) : Array Value :=
  #[vw, .slice (some ⟨lb, 0, none⟩) n n, .int .u32 0, .int .u32 0, .int .u32 0, .int .u32 0, .int .u32 0, .int .u32 0, .int .u32 0, .int .u32 0, .int .u32 0, .int .u32 0, .int .u32 0, .int .u32 0, .pointer (some ⟨mm, 0, none⟩), .string inp, .pointer none, .slice none 0 0, .slice none 0 0, .int .i64 entry, .int .i64 0, .int .i64 0, .int .u32 0, .nilFunc, .nilFunc, .nilFunc, .nilFunc, .nilFunc, .nilFunc, funV 86, funV 87, funV 88, funV 89, funV 90, funV 91, funV 92, funV 93, funV 94, funV 95, funV 96, funV 97, funV 98, funV 99, funV 101, funV 102, funV 104, funV 105, funV 106]
abbrev wk0 (k : Nat) : Value := worksL.getD k .nilFunc
theorem machA_cs (x : Fz) (E : Env) (data : List Int) (entry : Int) : ∀ k, k < 48 → (machA x.vw E.words.length x.lb x.mm ⟨E.input.toArray⟩ entry)[k]? = some (cellOf (x.mv E wk0 (start E data entry) (.pointer none) (.slice none 0 0) (.slice none 0 0)) k)
  | 0, _ => rfl
  | 1, _ => rfl
  | 2, _ => rfl
  | 3, _ => rfl
  | 4, _ => rfl
  | 5, _ => rfl
  | 6, _ => rfl
  | 7, _ => rfl
  | 8, _ => rfl
  | 9, _ => rfl
  | 10, _ => rfl
  | 11, _ => rfl
  | 12, _ => rfl
  | 13, _ => rfl
  | 14, _ => rfl
  | 15, _ => rfl
  | 16, _ => rfl
  | 17, _ => rfl
  | 18, _ => rfl
  | 19, _ => rfl
  | 20, _ => rfl
  | 21, _ => rfl
  | 22, _ => rfl
  | 23, _ => rfl
  | 24, _ => rfl
  | 25, _ => rfl
  | 26, _ => rfl
  | 27, _ => rfl
  | 28, _ => rfl
  | 29, _ => rfl
  | 30, _ => rfl
  | 31, _ => rfl
  | 32, _ => rfl
  | 33, _ => rfl
  | 34, _ => rfl
  | 35, _ => rfl
  | 36, _ => rfl
  | 37, _ => rfl
  | 38, _ => rfl
  | 39, _ => rfl
  | 40, _ => rfl
  | 41, _ => rfl
  | 42, _ => rfl
  | 43, _ => rfl
  | 44, _ => rfl
  | 45, _ => rfl
  | 46, _ => rfl
  | 47, _ => rfl
  | n + 48, hk => absurd hk (by omega)
/-- What was laid so far: the box of what was handed over; the list, if it is there; the memory, if it is there. -/
structure Sofar (w : World) (bx : Array Value) (n : Nat) (L : List Int) (lbo : Option Nat) (mo : Option (Nat × (Nat → Option Nat))) (W : World) : Prop where
  below : Below w.heap.size w W
  box : W.heap[w.heap.size]? = some (.cells bx 48 (0, 0))
  list : ∀ lb, lbo = some lb → w.heap.size < lb ∧ W.heap[lb]? = some (.cells (zsA n) 120 (0, 0))
  mem : ∀ mm pg, mo = some (mm, pg) → w.heap.size < mm ∧ MemR W mm pg L ∧ (∀ i g, i < 128 → pg i = some g → w.heap.size < g)
  apart : ∀ lb mm pg, lbo = some lb → mo = some (mm, pg) → mm ≠ lb ∧ ∀ i g, i < 128 → pg i = some g → g ≠ lb
section
variable {w W W' : World} {bx : Array Value} {n : Nat} {L : List Int} {lbo : Option Nat} {mo : Option (Nat × (Nat → Option Nat))}
theorem Sofar.begin (w : World) (bx : Array Value) (n : Nat) (L : List Int) : Sofar w bx n L none none (w.alloc (.cells bx 48 (0, 0))) :=
  ⟨below_one _ _, heap_alloc_new _ _, fun _ h => (by cases h), fun _ _ h => (by cases h), fun _ _ _ h => (by cases h)⟩
theorem Sofar.lt (h : Sofar w bx n L lbo mo W) : w.heap.size < W.heap.size := lt_of_block h.box
theorem Sofar.grow (h : Sofar w bx n L lbo mo W) (hb : Below W.heap.size W W') : Sofar w bx n L lbo mo W' := by
  refine ⟨bt h.below (hb.mono (Nat.le_refl _)), (hb.block _ h.lt).trans h.box, fun lb e => ?_, fun mm pg e => ?_, h.apart⟩
  · obtain ⟨h1, h2⟩ := h.list lb e
    exact ⟨h1, (hb.block _ (lt_of_block h2)).trans h2⟩
  · obtain ⟨h1, h2, h3⟩ := h.mem mm pg e
    have hl : mm < W.heap.size := by
      obtain ⟨cs, k1, _⟩ := h2.tab
      exact lt_of_block k1
    exact ⟨h1, h2.same (hb.block _ hl) (fun i g hi hg => hb.block _ (h2.lt hi hg)), h3⟩
theorem Sofar.drew (h : Sofar w bx n L lbo mo W) : Sofar w bx n L lbo mo W.drew := h.grow (Below.refl _ _).drew
theorem Sofar.slice (h : Sofar w bx n L none mo W) : Sofar w bx n L (some W.heap.size) mo (W.alloc (.cells (zsA n) 120)) := by
  have h2 := h.grow (below_one W (.cells (zsA n) 120))
  refine ⟨h2.below, h2.box, fun lb e => ?_, h2.mem, fun lb mm pg e e2 => ?_⟩
  · injection e with e
    subst e
    exact ⟨h.lt, heap_alloc_new _ _⟩
  · injection e with e
    subst e
    obtain ⟨h1, h3, h4⟩ := h.mem mm pg e2
    have hl : mm < W.heap.size := by
      obtain ⟨cs, k1, _⟩ := h3.tab
      exact lt_of_block k1
    exact ⟨by omega, fun i g hi hg => by have := h3.lt hi hg; omega⟩
theorem Sofar.sliceD (h : Sofar w bx n L none mo W) : Sofar w bx n L (some W.heap.size) mo (W.alloc (.cells (zsA n) 120)).drew := h.slice.drew
theorem Sofar.memory (h : Sofar w bx n L lbo none W) {mm : Nat} {pg : Nat → Option Nat} (hm : MemR W' mm pg L) (h1 : W.heap.size ≤ mm) (h2 : ∀ i g, i < 128 → pg i = some g → W.heap.size ≤ g) (hb : Below W.heap.size W W') : Sofar w bx n L lbo (some (mm, pg)) W' := by
  have h3 := h.grow hb
  have hl := h.lt
  refine ⟨h3.below, h3.box, h3.list, fun mm' pg' e => ?_, fun lb mm' pg' e e2 => ?_⟩
  · injection e with e
    injection e with e e2
    subst e e2
    exact ⟨by omega, hm, fun i g hi hg => by have := h2 i g hi hg; omega⟩
  · injection e2 with e2
    injection e2 with e2 e3
    subst e2 e3
    have h5 := lt_of_block (h.list lb e).2
    exact ⟨by omega, fun i g hi hg => by have := h2 i g hi hg; omega⟩
/-- All of it, and the machine. -/
structure Laid (w : World) (bx : Array Value) (n : Nat) (L : List Int) (mc : Nat → Nat → Array Value) (bm lb mm : Nat) (pg : Nat → Option Nat) (W : World) : Prop where
  so : Sofar w bx n L (some lb) (some (mm, pg)) W
  mach : W.heap[bm]? = some (.cells (mc lb mm) 98 (0, 0))
  hi : w.heap.size < bm
  off : bm ≠ lb ∧ bm ≠ mm ∧ ∀ i g, i < 128 → pg i = some g → g ≠ bm
theorem Sofar.machine {lb mm : Nat} {pg : Nat → Option Nat} (h : Sofar w bx n L (some lb) (some (mm, pg)) W) (mc : Nat → Nat → Array Value) : Laid w bx n L mc W.heap.size lb mm pg (W.alloc (.cells (mc lb mm) 98)) := by
  obtain ⟨_, h1⟩ := h.list lb rfl
  obtain ⟨_, h2, h3⟩ := h.mem mm pg rfl
  have hl : mm < W.heap.size := by
    obtain ⟨cs, k1, _⟩ := h2.tab
    exact lt_of_block k1
  have h4 := lt_of_block h1
  exact ⟨h.grow (below_one _ _), heap_alloc_new _ _, h.lt, by omega, by omega, fun i g hi hg => by have := h2.lt hi hg; omega⟩
theorem Laid.drew {mc : Nat → Nat → Array Value} {bm lb mm : Nat} {pg : Nat → Option Nat} (h : Laid w bx n L mc bm lb mm pg W) : Laid w bx n L mc bm lb mm pg W.drew := ⟨h.so.drew, h.mach, h.hi, h.off⟩
end
end Go.Proofs.YtopceggmdieppaaDoor.Emu
