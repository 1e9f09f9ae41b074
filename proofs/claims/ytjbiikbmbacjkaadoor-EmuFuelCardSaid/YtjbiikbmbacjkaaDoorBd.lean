/- The machine's memory: load and store. No condition. -/
import Derived.Test.YtjbiikbmbacjkaaDoorBc
import Derived.Deep.DeepCutAuto
namespace Go.Proofs.YtjbiikbmbacjkaaDoor.Emu
open Go.RowKit Go.Proofs.YtjbiikbmbacjkaaDoor.Enc Go.Proofs.YtjbiikbmbacjkaaDoor.Graph

def isZ : Value → Bool
  | .int .u32 n => n == 0
  | _ => false
theorem isZ_eq {v : Value} (h : isZ v = true) : v = .int .u32 0 := by
  unfold isZ at h
  split at h
  · rw [eq_of_beq h]
  · cases h
theorem zero_all : Tryd.zeroCells112.toList.all isZ = true := by kernel_rfl
theorem zero_page {j : Nat} (hj : j < 4096) : Tryd.zeroCells112[j]? = some (.int .u32 0) := by
  have h1 : j < Tryd.zeroCells112.size := by rw [Tryd.zeroCells112_size]; exact hj
  rw [Array.getElem?_eq_getElem h1, isZ_eq (List.all_eq_true.1 zero_all _ (Array.getElem_mem_toList h1))]
section
variable {x : Fz} {E : Env} {wk : Nat → Value} {w w' : World} {m : M} {ad buf back : Value} {pg : Nat → Option Nat}
def LoadPost (l : List Int) (a : Int) (w : World) (e : Ending) (w2 : World) : Prop :=
  (a < 524288 → e = .returned (.int .u32 (l.getD a.toNat 0))) ∧ (¬ a < 524288 → e = thrown 6) ∧ w2 = w
set_option maxHeartbeats 4000000 in
set_option maxRecDepth 100000 in
theorem load_prog {mm : Nat} {l : List Int} (h : MemR w mm pg l) (a : Int) (h0 : 0 ≤ a) :
    Calls Tryd.prog 74 #[.pointer (some ⟨mm, 0, none⟩), .int .u32 a] w (LoadPost l a w) := by
  by_cases hlt : a < 524288
  · have hi : (a / 4096).toNat < 128 := by omega
    have hj : (a % 4096).toNat < 4096 := by omega
    have he : 4096 * (a / 4096).toNat + (a % 4096).toNat = a.toNat := by omega
    obtain ⟨cs, k1, k2, k3⟩ := h.tab
    have c1 := (cell_of_block k1 (k3 _ hi)).1
    have HP := Lib.hid (show ∀ e w2, (e = Ending.returned (.int .u32 (l.getD a.toNat 0)) ∧ w2 = w) → LoadPost l a w e w2 from fun e w2 he => ⟨fun _ => he.1, fun hn => absurd hlt hn, he.2⟩)
    have i2 : 0 ≤ a / 4096 := by omega
    have i3 : a / 4096 < 128 := by omega
    have i4 : 0 ≤ a % 4096 := by omega
    have i5 : a % 4096 < 4096 := by omega
    cases hpg : pg (a / 4096).toNat with
    | none =>
      have hv := h.none_ _ hi hpg _ hj
      rw [he] at hv
      rw [hv] at HP
      rw [hpg] at c1
      simp only [Option.map_none] at c1
      clear h hv k1 k2 k3 hpg he hi hj
      refine Calls.mono ?_ HP.out
      go_enter Tryd.func74, Tryd.ntmps74
      go_wp2
      go_ret
      exact ⟨rfl, rfl⟩
    | some g =>
      obtain ⟨cs2, j1, j2, j3⟩ := h.some_ _ g hi hpg
      have c2 := (cell_of_block j1 (j3 _ hj)).1
      rw [he] at c2
      rw [hpg] at c1
      simp only [Option.map_some] at c1
      generalize l.getD a.toNat 0 = u at *
      clear h k1 k2 k3 j1 j2 j3 hpg he hi hj
      refine Calls.mono ?_ HP.out
      go_enter Tryd.func74, Tryd.ntmps74
      go_wp2
      go_ret
      exact ⟨rfl, rfl⟩
  · have HP := Lib.hid (show ∀ e w2, (e = thrown 6 ∧ w2 = w) → LoadPost l a w e w2 from fun e w2 he => ⟨fun hn => absurd hn hlt, fun _ => he.1, he.2⟩)
    clear h
    refine Calls.mono ?_ HP.out
    go_enter Tryd.func74, Tryd.ntmps74
    go_wp2
    exact ⟨rfl, rfl, rfl⟩
/-- A word stored into a page that is there. -/
theorem St.hit (h : St x E wk w w' m ad buf back pg) {i j g : Nat} (hi : i < 128) (hj : j < 4096) (hpg : pg i = some g) (hl : m.mem.length = 524288) (v : Int) :
    St x E wk w (w'.setCell ⟨g, j, none⟩ (.int .u32 v)) { m with mem := m.mem.set (4096 * i + j) v } ad buf back pg := by
  obtain ⟨p1, p2, p3, p4, p5⟩ := h.pz i g hi hpg
  obtain ⟨cs, k1, k2⟩ := h.mach
  obtain ⟨ls, k3, k4⟩ := h.list
  obtain ⟨ts, t1, t2⟩ := h.mem.tab
  have hne : ∀ b, b ≠ g → (w'.setCell ⟨g, j, none⟩ (.int .u32 v)).heap[b]? = w'.heap[b]? := fun b hb => heap_setCell_other w' ⟨g, j, none⟩ b _ hb
  refine ⟨h.ok, h.below.setCell (p := ⟨g, j, none⟩) p1 _, by simpa using h.size, ⟨cs, (hne _ (fun e => p2 e.symm)).trans k1, k2⟩, h.words, h.wz, ⟨ls, (hne _ (fun e => p3 e.symm)).trans k3, k4⟩, ?_,
    own_same h.backR (fun b hb => hne b (fun e => p4 (by rw [hb, e]))), own_same h.bufR (fun b hb => hne b (fun e => p5 (by rw [hb, e]))), h.ads, h.bb, h.pz, h.nul, (hne _ (fun e => h.pzb i g hi hpg e.symm)).trans h.box, h.pzb⟩
  have hlen : 4096 * i + j < m.mem.length := by rw [hl]; omega
  have hget : ∀ i' j', i' < 128 → j' < 4096 → (i' ≠ i ∨ j' ≠ j) → (m.mem.set (4096 * i + j) v).getD (4096 * i' + j') 0 = m.mem.getD (4096 * i' + j') 0 := fun i' j' h1 h2 h3 => by
    rw [List.getD_eq_getElem?_getD, List.getElem?_set_ne (by omega), ← List.getD_eq_getElem?_getD]
  refine ⟨⟨ts, (hne _ (fun e => h.mem.off i g hi hpg e.symm)).trans t1, t2⟩, fun i' hi' hn j' hj' => ?_, fun i' g' hi' hg' => ?_, h.mem.one, h.mem.off⟩
  · rw [hget i' j' hi' hj' (.inl (fun e => by rw [e, hpg] at hn; cases hn))]; exact h.mem.none_ i' hi' hn j' hj'
  · obtain ⟨cs2, j1, j2, j3⟩ := h.mem.some_ i' g' hi' hg'
    by_cases e : i' = i
    · subst e
      have e2 : g' = g := by rw [hpg] at hg'; injection hg' with e2; exact e2.symm
      subst e2
      refine ⟨_, heap_setCell_same w' g' j _ _ _ j1, by simpa using j2, fun j' hj' => ?_⟩
      by_cases e3 : j' = j
      · subst e3
        rw [Array.getElem?_setIfInBounds_self_of_lt (by omega), List.getD_eq_getElem?_getD, List.getElem?_set_self hlen]; rfl
      · rw [Array.getElem?_setIfInBounds_ne (fun e => e3 e.symm), hget i' j' hi' hj' (.inr e3)]; exact j3 j' hj'
    · refine ⟨cs2, (hne g' (fun e2 => e (h.mem.one i' i g' hi' hi hg' (by rw [e2]; exact hpg)))).trans j1, j2, fun j' hj' => ?_⟩
      rw [hget i' j' hi' hj' (.inl e)]; exact j3 j' hj'
/-- A page laid where none was. -/
theorem St.page (h : St x E wk w w' m ad buf back pg) {i : Nat} (hi : i < 128) (hpg : pg i = none) (cs : Array Value) (hc : cs.size = 4096) (hz : ∀ j, j < 4096 → cs[j]? = some (.int .u32 0)) :
    St x E wk w ((w'.alloc (.cells cs 112)).setCell ⟨x.mm, i, none⟩ (.pointer (some ⟨w'.heap.size, 0, none⟩))) m ad buf back (fun k => if k = i then some w'.heap.size else pg k) := by
  have h0 := h.lmm
  have hbk := fun b hb => (h.backR.lt b hb).2
  have hbf := fun b hb => (h.bufR.lt b hb).2
  have hA := h.alloc (.cells cs 112)
  obtain ⟨ms, k1, k2⟩ := hA.mach
  obtain ⟨ls, k3, k4⟩ := hA.list
  obtain ⟨ts, t1, t2, t3⟩ := hA.mem.tab
  have hnew : (w'.alloc (.cells cs 112)).heap[w'.heap.size]? = some (.cells cs 112 (0, 0)) := heap_alloc_new w' _
  have hN : x.N ≤ w'.heap.size := h.size
  have hmm : x.mm ≠ w'.heap.size := Nat.ne_of_lt h0
  generalize hW : w'.alloc (.cells cs 112) = W at *
  have hne : ∀ b, b ≠ x.mm → (W.setCell ⟨x.mm, i, none⟩ (.pointer (some ⟨w'.heap.size, 0, none⟩))).heap[b]? = W.heap[b]? := fun b hb => heap_setCell_other W ⟨x.mm, i, none⟩ b _ hb
  have hlt : ∀ i' g, i' < 128 → pg i' = some g → g < w'.heap.size := fun i' g a b => h.mem.lt a b
  refine ⟨h.ok, hA.below.setCell (p := ⟨x.mm, i, none⟩) h.ok.zm _, by simpa using hA.size, ⟨ms, (hne _ h.ok.bm).trans k1, k2⟩, h.words, h.wz, ⟨ls, (hne _ h.ok.ml.symm).trans k3, k4⟩, ?_,
    own_same hA.backR (fun b hb => hne b (by have := (h.backR.lt b hb).1; have := h.ok.mn; omega)), own_same hA.bufR (fun b hb => hne b (by have := (h.bufR.lt b hb).1; have := h.ok.mn; omega)), h.ads, h.bb, ?_, h.nul, (hne _ h.ok.pm).trans hA.box, fun i' g hi' hg => by
    have hpl := h.lpb
    by_cases e : i' = i
    · rw [if_pos e] at hg
      injection hg with hg
      omega
    · rw [if_neg e] at hg; exact h.pzb i' g hi' hg⟩
  · refine ⟨⟨_, heap_setCell_same W x.mm i _ _ _ t1, by simpa using t2, fun i' hi' => ?_⟩, fun i' hi' hn => ?_, fun i' g hi' hg => ?_, fun i' j' g hi' hj' hg hg2 => ?_, fun i' g hi' hg => ?_⟩
    · by_cases e : i' = i
      · subst e; rw [Array.getElem?_setIfInBounds_self_of_lt (by omega), if_pos rfl]; rfl
      · rw [Array.getElem?_setIfInBounds_ne (fun e' => e e'.symm), if_neg e]; exact t3 i' hi'
    · by_cases e : i' = i
      · rw [if_pos e] at hn; cases hn
      · rw [if_neg e] at hn; exact h.mem.none_ i' hi' hn
    · by_cases e : i' = i
      · rw [if_pos e] at hg
        injection hg with hg
        subst hg e
        exact ⟨cs, (hne _ hmm.symm).trans hnew, hc, fun j hj => by rw [h.mem.none_ i' hi hpg j hj]; exact hz j hj⟩
      · rw [if_neg e] at hg
        obtain ⟨cs2, j1, j2, j3⟩ := hA.mem.some_ i' g hi' hg
        exact ⟨cs2, (hne _ (h.mem.off i' g hi' hg)).trans j1, j2, j3⟩
    · by_cases e : i' = i
      · by_cases e2 : j' = i
        · rw [e, e2]
        · rw [if_pos e] at hg
          rw [if_neg e2] at hg2
          injection hg with hg
          have := hlt j' g hj' hg2; omega
      · by_cases e2 : j' = i
        · rw [if_neg e] at hg
          rw [if_pos e2] at hg2
          injection hg2 with hg2
          have := hlt i' g hi' hg; omega
        · rw [if_neg e] at hg
          rw [if_neg e2] at hg2
          exact h.mem.one i' j' g hi' hj' hg hg2
    · by_cases e : i' = i
      · rw [if_pos e] at hg
        injection hg with hg
        omega
      · rw [if_neg e] at hg; exact h.mem.off i' g hi' hg
  · intro i' g hi' hg
    by_cases e : i' = i
    · rw [if_pos e] at hg
      injection hg with hg
      have a1 := h.ok.zb; have a2 := h.ok.bn; have a3 := h.ok.ln
      refine ⟨by omega, by omega, by omega, fun e2 => ?_, fun e2 => ?_⟩
      · have := hbk g e2; omega
      · have := hbf g e2; omega
    · rw [if_neg e] at hg; exact h.pz i' g hi' hg
def StorePost (x : Fz) (E : Env) (wk : Nat → Value) (w w' : World) (m : M) (ad buf back : Value) (_pg : Nat → Option Nat) (a v : Int) (e : Ending) (w2 : World) : Prop :=
  (a < 524288 → e = .returned (.tuple #[]) ∧ ∃ pg', St x E wk w w2 { m with mem := m.mem.set a.toNat v } ad buf back pg') ∧ (¬ a < 524288 → e = thrown 6 ∧ w2 = w')
set_option maxHeartbeats 4000000 in
set_option maxRecDepth 100000 in
theorem store_prog (h : St x E wk w w' m ad buf back pg) (hl : m.mem.length = 524288) (a v : Int) (h0 : 0 ≤ a) :
    Calls Tryd.prog 75 #[.pointer (some ⟨x.mm, 0, none⟩), .int .u32 a, .int .u32 v] w' (StorePost x E wk w w' m ad buf back pg a v) := by
  by_cases hlt : a < 524288
  · have hi : (a / 4096).toNat < 128 := by omega
    have hj : (a % 4096).toNat < 4096 := by omega
    have he : 4096 * (a / 4096).toNat + (a % 4096).toNat = a.toNat := by omega
    obtain ⟨cs, k1, k2, k3⟩ := h.mem.tab
    have c1 := cell_of_block k1 (k3 _ hi)
    have HP := Lib.hid (show ∀ e w2, (e = Ending.returned (.tuple #[]) ∧ ∃ pg', St x E wk w w2 { m with mem := m.mem.set a.toNat v } ad buf back pg') → StorePost x E wk w w' m ad buf back pg a v e w2 from fun e w2 he => ⟨fun _ => he, fun hn => absurd hlt hn⟩)
    have i2 : 0 ≤ a / 4096 := by omega
    have i3 : a / 4096 < 128 := by omega
    have i4 : 0 ≤ a % 4096 := by omega
    have i5 : a % 4096 < 4096 := by omega
    cases hpg : pg (a / 4096).toNat with
    | none =>
      rw [hpg] at c1
      simp only [Option.map_none] at c1
      obtain ⟨c1, f1⟩ := c1
      have hmm := h.lmm
      have HQ := Lib.hid (h.page hi hpg _ Tryd.zeroCells112_size (fun j hj => zero_page hj))
      rw [World.setCell_alloc_past _ _ _ _ hmm] at HQ
      clear h k1 k2 k3
      have HI := Lib.hid (And.intro hi (And.intro hj (And.intro hl he)))
      clear hi hj hpg hl he
      refine Calls.mono ?_ HP.out
      go_enter Tryd.func75, Tryd.ntmps75
      go_upto_region 5 with (fail)
      have hq := HQ.out
      obtain ⟨cs3, z1, z2, z3⟩ := hq.mem.tab
      have d1 := (cell_of_block z1 (z3 _ HI.out.1)).1
      rw [if_pos rfl] at d1
      simp only [Option.map_some] at d1
      obtain ⟨cs4, y1, y2, y3⟩ := hq.mem.some_ _ w'.heap.size HI.out.1 (if_pos rfl)
      obtain ⟨d2, g2⟩ := cell_of_block y1 (y3 _ HI.out.2.1)
      have HF := Lib.hid (hq.hit HI.out.1 HI.out.2.1 (if_pos rfl) HI.out.2.2.1 v)
      rw [HI.out.2.2.2] at HF
      clear hq z1 z2 z3 y1 y2 y3 HQ HI c1 f1
      generalize World.alloc _ _ = W at *
      generalize w'.heap.size = g at *
      go_wp2
      go_end0
      exact ⟨rfl, _, HF.out⟩
    | some g =>
      obtain ⟨cs2, j1, j2, j3⟩ := h.mem.some_ _ g hi hpg
      have c2 := (cell_of_block j1 (j3 _ hj))
      rw [he] at c2
      rw [hpg] at c1
      simp only [Option.map_some] at c1
      obtain ⟨c1, f1⟩ := c1
      obtain ⟨c2, f2⟩ := c2
      have HS := Lib.hid (h.hit hi hj hpg hl v)
      rw [he] at HS
      clear h k1 k2 k3 j1 j2 j3 hpg he hi hj hl
      refine Calls.mono ?_ HP.out
      go_enter Tryd.func75, Tryd.ntmps75
      go_wp2
      go_end0
      exact ⟨rfl, _, HS.out⟩
  · have HP := Lib.hid (show ∀ e w2, (e = thrown 6 ∧ w2 = w') → StorePost x E wk w w' m ad buf back pg a v e w2 from fun e w2 he => ⟨fun hn => absurd hn hlt, fun _ => he⟩)
    clear h hl
    refine Calls.mono ?_ HP.out
    go_enter Tryd.func75, Tryd.ntmps75
    go_wp2
    exact ⟨rfl, rfl, rfl⟩
end
end Go.Proofs.YtjbiikbmbacjkaaDoor.Emu
