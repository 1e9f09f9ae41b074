/- The document's machine, as it lies. No condition. -/
import Derived.Test.YtopceggmdieppaaDoorHB
import Derived.Deep.QuietTactic
import Derived.BigQuiet
namespace Go.Proofs.YtopceggmdieppaaDoor.Emu
open Go.RowKit Go.Proofs.YtopceggmdieppaaDoor.Enc Go.Proofs.YtopceggmdieppaaDoor.Graph

/-- The fixed parts of the document's machine. -/
structure Dz where
  (Z N bm mb : Nat)
  vw : Value
structure Dz.Ok (x : Dz) : Prop where
  zb : x.Z ≤ x.bm
  zm : x.Z ≤ x.mb
  bn : x.bm < x.N
  mn : x.mb < x.N
  bm : x.bm ≠ x.mb
/-- What its cells hold. -/
def dcell (x : Dz) (E : Env) (m : M) (back buf : Value) (k : Nat) : Value :=
  if k = 0 then x.vw else if k < 13 then .int .u32 (m.r.getD (k - 1) 0) else if k = 13 then .slice (some ⟨x.mb, 0, none⟩) 524288 524288 else if k = 14 then .string ⟨E.input.toArray⟩ else if k = 15 then .int .i64 m.at_
  else if k = 16 then back else if k = 17 then .int .i64 m.place else if k = 18 then .int .i64 m.stop else if k = 19 then .int .u32 m.code else if k = 20 then .string ⟨#[]⟩ else if k = 21 then .int .i64 m.steps else if k = 22 then buf else .nilFunc
structure DCs (cs : Array Value) (x : Dz) (E : Env) (m : M) (back buf : Value) : Prop where
  size : cs.size = 23
  at_ : ∀ k, k < 23 → cs[k]? = some (dcell x E m back buf k)
theorem DCs.put {cs : Array Value} {x : Dz} {E : Env} {m m' : M} {back buf back' buf' : Value} (h : DCs cs x E m back buf) (k : Nat) (u : Value) (hk : dcell x E m' back' buf' k = u) (ho : ∀ j, j < 23 → j ≠ k → dcell x E m' back' buf' j = dcell x E m back buf j) : DCs (cs.setIfInBounds k u) x E m' back' buf' := by
  refine ⟨by simpa using h.size, fun j hj => ?_⟩
  by_cases e : j = k
  · subst e; rw [Array.getElem?_setIfInBounds_self_of_lt (by have := h.size; omega), hk]
  · rw [Array.getElem?_setIfInBounds_ne (fun e' => e e'.symm), h.at_ j hj, ho j hj e]
theorem dcell_reg (x : Dz) (E : Env) (m : M) (back buf : Value) {a : Nat} (ha : a < 12) : dcell x E m back buf (1 + a) = .int .u32 (m.r.getD a 0) := by
  unfold dcell
  rw [if_neg (by omega), if_pos (by omega), Nat.add_sub_cancel_left]
structure Sd (x : Dz) (E : Env) (w w' : World) (m : M) (back buf : Value) : Prop where
  ok : x.Ok
  below : Below x.Z w w'
  size : x.N ≤ w'.heap.size
  mach : ∃ cs, w'.heap[x.bm]? = some (.cells cs 102 (0, 0)) ∧ DCs cs x E m back buf
  words : WordsR w x.vw E.words
  wz : w.heap.size = x.Z
  mem : ∃ cs, w'.heap[x.mb]? = some (.cells cs 37 (0, 0)) ∧ cs.size = 524288 ∧ ∀ j, j < 524288 → cs[j]? = some (.int .u32 (m.mem.getD j 0))
  backR : w'.ownsRow x.N 3 1 back m.calls.length (m.calls.map fun p => .int .i64 p)
  bufR : w'.ownsRow x.N 5 1 buf m.bytes.length (m.bytes.map fun b => .int .u8 b.toNat)
  bb : ∀ b, back.ownBlock = some b → buf.ownBlock ≠ some b
section
variable {x : Dz} {E : Env} {w w' w1 w2 : World} {m : M} {back buf : Value}
theorem Sd.lm (h : Sd x E w w' m back buf) : x.bm < w'.heap.size := Nat.lt_of_lt_of_le h.ok.bn h.size
theorem Sd.lmb (h : Sd x E w w' m back buf) : x.mb < w'.heap.size := Nat.lt_of_lt_of_le h.ok.mn h.size
theorem Sd.cell (h : Sd x E w w' m back buf) {k : Nat} (hk : k < 23) : w'.cell? ⟨x.bm, k, none⟩ = some (dcell x E m back buf k) ∧ w'.frozen? ⟨x.bm, k, none⟩ = false := by
  obtain ⟨cs, h1, h2⟩ := h.mach
  exact cell_of_block h1 (h2.at_ k hk)
theorem Sd.wds (h : Sd x E w w' m back buf) : WordsR w' x.vw E.words := h.words.below (h.below.mono (by rw [h.wz]; exact Nat.le_refl _))
theorem Sd.go (h : Sd x E w w' m back buf) (hb : Below w'.heap.size w' w2) : Sd x E w w2 m back buf := by
  obtain ⟨cs, h1, h2⟩ := h.mach
  obtain ⟨ms, h3, h4⟩ := h.mem
  have hz : x.Z ≤ w'.heap.size := Nat.le_trans h.ok.zb (Nat.le_of_lt h.lm)
  exact ⟨h.ok, h.below.trans (hb.mono hz), Nat.le_trans h.size hb.size, ⟨cs, (hb.block _ h.lm).trans h1, h2⟩, h.words, h.wz, ⟨ms, (hb.block _ h.lmb).trans h3, h4⟩,
    own_same h.backR (fun b hb2 => hb.block b (h.backR.lt b hb2).2), own_same h.bufR (fun b hb2 => hb.block b (h.bufR.lt b hb2).2), h.bb⟩
theorem Sd.drew (h : Sd x E w w' m back buf) : Sd x E w w'.drew m back buf := h.go (Below.refl _ _).drew
theorem Sd.alloc (h : Sd x E w w' m back buf) (o : Obj) : Sd x E w (w'.alloc o) m back buf := h.go (below_one w' o)
/-- A cell of the machine is turned. -/
theorem Sd.set {m' : M} (h : Sd x E w w' m back buf) (k : Nat) (u : Value) (hk : dcell x E m' back buf k = u) (ho : ∀ j, j < 23 → j ≠ k → dcell x E m' back buf j = dcell x E m back buf j)
    (h1 : m'.mem = m.mem) (h2 : m'.calls = m.calls) (h3 : m'.bytes = m.bytes) : Sd x E w (w'.setCell ⟨x.bm, k, none⟩ u) m' back buf := by
  obtain ⟨cs, k1, k2⟩ := h.mach
  obtain ⟨ms, k3, k4, k5⟩ := h.mem
  have hne : ∀ b, b ≠ x.bm → (w'.setCell ⟨x.bm, k, none⟩ u).heap[b]? = w'.heap[b]? := fun b hb => heap_setCell_other w' ⟨x.bm, k, none⟩ b u hb
  refine ⟨h.ok, h.below.setCell (p := ⟨x.bm, k, none⟩) h.ok.zb u, by simpa using h.size, ⟨_, heap_setCell_same w' x.bm k _ _ u k1, k2.put k u hk ho⟩, h.words, h.wz, ⟨ms, (hne _ h.ok.bm.symm).trans k3, k4, by rw [h1]; exact k5⟩, ?_, ?_, h.bb⟩
  · rw [h2]; exact own_same h.backR (fun b hb => hne b (by have := (h.backR.lt b hb).1; have := h.ok.bn; omega))
  · rw [h3]; exact own_same h.bufR (fun b hb => hne b (by have := (h.bufR.lt b hb).1; have := h.ok.bn; omega))
theorem Sd.setPlace (h : Sd x E w w' m back buf) (p : Int) : Sd x E w (w'.setCell ⟨x.bm, 17, none⟩ (.int .i64 p)) { m with place := p } back buf :=
  h.set 17 _ rfl (fun j hj hn => by unfold dcell; simp only [hn, if_false]) rfl rfl rfl
theorem Sd.setStop (h : Sd x E w w' m back buf) (n : Int) : Sd x E w (w'.setCell ⟨x.bm, 18, none⟩ (.int .i64 n)) { m with stop := n } back buf :=
  h.set 18 _ rfl (fun j hj hn => by unfold dcell; simp only [hn, if_false]) rfl rfl rfl
theorem Sd.setCode (h : Sd x E w w' m back buf) (n : Int) : Sd x E w (w'.setCell ⟨x.bm, 19, none⟩ (.int .u32 n)) { m with code := n } back buf :=
  h.set 19 _ rfl (fun j hj hn => by unfold dcell; simp only [hn, if_false]) rfl rfl rfl
theorem Sd.setSteps (h : Sd x E w w' m back buf) (n : Nat) : Sd x E w (w'.setCell ⟨x.bm, 21, none⟩ (.int .i64 n)) { m with steps := n } back buf :=
  h.set 21 _ rfl (fun j hj hn => by unfold dcell; simp only [hn, if_false]) rfl rfl rfl
theorem Sd.setAt (h : Sd x E w w' m back buf) (n : Nat) : Sd x E w (w'.setCell ⟨x.bm, 15, none⟩ (.int .i64 n)) { m with at_ := n } back buf :=
  h.set 15 _ rfl (fun j hj hn => by unfold dcell; simp only [hn, if_false]) rfl rfl rfl
theorem Sd.setR (h : Sd x E w w' m back buf) {a : Nat} (ha : a < 12) (hr : m.r.length = 12) (v : Int) : Sd x E w (w'.setCell ⟨x.bm, 1 + a, none⟩ (.int .u32 v)) (setR m (a : Int) v) back buf := by
  refine h.set (1 + a) _ ?_ (fun j hj hn => ?_) rfl rfl rfl
  · rw [dcell_reg _ _ _ _ _ ha]
    show Value.int .u32 ((m.r.set (a : Int).toNat v).getD a 0) = _
    rw [Int.toNat_natCast, List.getD_eq_getElem?_getD, List.getElem?_set_self (by omega)]; rfl
  · unfold dcell
    by_cases e0 : j = 0
    · rw [if_pos e0, if_pos e0]
    by_cases e2 : j < 13
    · rw [if_neg e0, if_neg e0, if_pos e2, if_pos e2]
      show Value.int .u32 ((m.r.set (a : Int).toNat v).getD (j - 1) 0) = .int .u32 (m.r.getD (j - 1) 0)
      rw [Int.toNat_natCast, List.getD_eq_getElem?_getD, List.getElem?_set_ne (by omega), ← List.getD_eq_getElem?_getD]
    · rw [if_neg e0, if_neg e0, if_neg e2, if_neg e2]; rfl
/-- A word stored into the memory. -/
theorem Sd.hit (h : Sd x E w w' m back buf) {j : Nat} (hj : j < 524288) (hl : m.mem.length = 524288) (v : Int) : Sd x E w (w'.setCell ⟨x.mb, j, none⟩ (.int .u32 v)) { m with mem := m.mem.set j v } back buf := by
  obtain ⟨cs, k1, k2⟩ := h.mach
  obtain ⟨ms, k3, k4, k5⟩ := h.mem
  have hne : ∀ b, b ≠ x.mb → (w'.setCell ⟨x.mb, j, none⟩ (.int .u32 v)).heap[b]? = w'.heap[b]? := fun b hb => heap_setCell_other w' ⟨x.mb, j, none⟩ b _ hb
  refine ⟨h.ok, h.below.setCell (p := ⟨x.mb, j, none⟩) h.ok.zm _, by simpa using h.size, ⟨cs, (hne _ h.ok.bm).trans k1, k2.size, fun k hk => by rw [k2.at_ k hk]; unfold dcell; rfl⟩, h.words, h.wz, ⟨_, heap_setCell_same w' x.mb j _ _ _ k3, by simpa using k4, fun i hi => ?_⟩,
    own_same h.backR (fun b hb => hne b (by have := (h.backR.lt b hb).1; have := h.ok.mn; omega)), own_same h.bufR (fun b hb => hne b (by have := (h.bufR.lt b hb).1; have := h.ok.mn; omega)), h.bb⟩
  by_cases e : i = j
  · subst e
    rw [Array.getElem?_setIfInBounds_self_of_lt (by omega), List.getD_eq_getElem?_getD, List.getElem?_set_self (by omega)]; rfl
  · rw [Array.getElem?_setIfInBounds_ne (fun e' => e e'.symm), List.getD_eq_getElem?_getD, List.getElem?_set_ne (fun e' => e e'.symm), ← List.getD_eq_getElem?_getD]; exact k5 i hi
end
end Go.Proofs.YtopceggmdieppaaDoor.Emu
namespace Go.Proofs.YtopceggmdieppaaDoor.Emu
open Go.RowKit Go.Proofs.YtopceggmdieppaaDoor.Enc Go.Proofs.YtopceggmdieppaaDoor.Graph

section
variable {x : Dz} {E : Env} {w w' w1 w2 : World} {m : M} {back buf : Value}
theorem Sd.drewN (h : Sd x E w w' m back buf) (n : Nat) : Sd x E w (w'.drewN n) m back buf := h.go ⟨rfl, rfl, rfl, Nat.le_refl _, fun _ _ => rfl⟩
set_option maxHeartbeats 4000000 in
set_option maxRecDepth 100000 in
theorem stop_d (h : Sd x E w w' m back buf) (s c : Int) :
    Calls Tryd.prog 46 #[.pointer (some ⟨x.bm, 0, none⟩), .int .i64 s, .int .u32 c] w' fun e w2 => e = .returned (.tuple #[]) ∧ Sd x E w w2 (halt m s c) back buf := by
  have H1 := Lib.hid (h.setStop s)
  obtain ⟨c18, f18⟩ := h.cell (k := 18) (by decide)
  obtain ⟨c19, f19⟩ := h.cell (k := 19) (by decide)
  change _ = some (Value.int .i64 m.stop) at c18
  change _ = some (Value.int .u32 m.code) at c19
  clear h
  go_enter Tryd.func46, Tryd.ntmps46
  go_wp2
  go_end0
  exact ⟨rfl, H1.out.setCode c⟩
set_option maxHeartbeats 4000000 in
set_option maxRecDepth 100000 in
theorem wordD_ok (h : Sd x E w w' m back buf) (p : Int) (hp : 0 ≤ p ∧ p < E.words.length) :
    Calls Tryd.prog 72 #[.pointer (some ⟨x.bm, 0, none⟩), .int .i64 p] w' fun e w2 => e = .returned (.tuple #[.int .u32 (E.words.getD p.toNat 0), .bool true]) ∧ w2 = w' := by
  obtain ⟨c0, f0⟩ := h.cell (k := 0) (by decide)
  change _ = some x.vw at c0
  obtain ⟨b, o, c, hvw, hc, hb, hat⟩ := SlR.form2 h.wds (by omega)
  have hx : E.words[p.toNat]? = some (E.words.getD p.toNat 0) := by
    rw [List.getD_eq_getElem?_getD, List.getElem?_eq_getElem (by omega)]; rfl
  have cw := hat p.toNat (by omega) _ hx
  rw [Nat.mul_one] at cw
  rw [hvw] at c0
  have hp0 := hp.1
  have hp1 := hp.2
  have q1 : decide (p < 0) = false := decide_eq_false (by omega)
  have q2 : decide ((E.words.length : Int) ≤ p) = false := decide_eq_false (by omega)
  generalize E.words.getD p.toNat 0 = u at *
  generalize E.words.length = n at *
  clear h hvw hat hx hp
  go_enter Tryd.func72, Tryd.ntmps72
  go_wp2
  refine bodyPost_ret (results_tmp2 rfl _ _ _) rfl ?_
  exact ⟨rfl, rfl⟩
set_option maxHeartbeats 4000000 in
set_option maxRecDepth 100000 in
theorem wordD_no (h : Sd x E w w' m back buf) (p : Int) (hp : ¬ (0 ≤ p ∧ p < E.words.length)) :
    Calls Tryd.prog 72 #[.pointer (some ⟨x.bm, 0, none⟩), .int .i64 p] w' fun e w2 => e = .returned (.tuple #[.int .u32 0, .bool false]) ∧ Sd x E w w2 (trap m 5) back buf := by
  have HS := Lib.hid (stop_d h 2 5)
  obtain ⟨c0, f0⟩ := h.cell (k := 0) (by decide)
  change _ = some x.vw at c0
  obtain ⟨vp, vc, hvw⟩ := SlR.form h.words
  rw [hvw] at c0
  by_cases hn : p < 0
  · have q1 : decide (p < 0) = true := decide_eq_true hn
    clear h hvw hp hn
    go_enter Tryd.func72, Tryd.ntmps72
    go_wp2_with (go_at_call 46; refine HS.out.mono ?_; rintro e w1 ⟨rfl, h1⟩; have H1 := Lib.hid h1; clear h1)
    refine bodyPost_ret (results_tmp2 rfl _ _ _) rfl ?_
    exact ⟨rfl, H1.out⟩
  · have q1 : decide (p < 0) = false := decide_eq_false hn
    have q2 : decide ((E.words.length : Int) ≤ p) = true := decide_eq_true (by omega)
    generalize E.words.length = n at *
    clear h hvw hp hn
    go_enter Tryd.func72, Tryd.ntmps72
    go_wp2_with (go_at_call 46; refine HS.out.mono ?_; rintro e w1 ⟨rfl, h1⟩; have H1 := Lib.hid h1; clear h1)
    refine bodyPost_ret (results_tmp2 rfl _ _ _) rfl ?_
    exact ⟨rfl, H1.out⟩
set_option maxHeartbeats 4000000 in
set_option maxRecDepth 100000 in
theorem readsD_no (h : Sd x E w w' m back buf) (hi : E.input[m.at_]? = none) :
    Calls Tryd.prog 119 #[.pointer (some ⟨x.bm, 0, none⟩)] w' fun e w2 => e = .returned (.int .u32 4294967295) ∧ Sd x E w w2 m back buf ∧ ∀ g, g ≠ x.bm → w2.heap[g]? = w'.heap[g]? := by
  obtain ⟨c14, f14⟩ := h.cell (k := 14) (by decide)
  change _ = some (Value.string ⟨E.input.toArray⟩) at c14
  obtain ⟨c15, f15⟩ := h.cell (k := 15) (by decide)
  change _ = some (Value.int .i64 m.at_) at c15
  have hl := List.getElem?_eq_none_iff.1 hi
  have HH := Lib.hid h
  clear h hi
  go_enter Tryd.func119, Tryd.ntmps119
  go_wp2
  go_quiet (fail)
  go_wp2
  go_ret
  exact ⟨rfl, HH.out.drewN _, fun _ _ => rfl⟩
set_option maxHeartbeats 4000000 in
set_option maxRecDepth 100000 in
theorem readsD_ok (h : Sd x E w w' m back buf) (hl : E.input.length ≤ 10000) {c : UInt8} (hi : E.input[m.at_]? = some c) :
    Calls Tryd.prog 119 #[.pointer (some ⟨x.bm, 0, none⟩)] w' fun e w2 => e = .returned (.int .u32 c.toNat) ∧ Sd x E w w2 { m with at_ := m.at_ + 1 } back buf ∧ ∀ g, g ≠ x.bm → w2.heap[g]? = w'.heap[g]? := by
  obtain ⟨c14, f14⟩ := h.cell (k := 14) (by decide)
  change _ = some (Value.string ⟨E.input.toArray⟩) at c14
  obtain ⟨c15, f15⟩ := h.cell (k := 15) (by decide)
  change _ = some (Value.int .i64 m.at_) at c15
  have hlt := (List.getElem?_eq_some_iff.1 hi).1
  have hn : ¬ E.input.length ≤ m.at_ := by omega
  have HS := Lib.hid (fun (W : World) (hW : Sd x E w W m back buf) => (show Sd x E w (W.setCell ⟨x.bm, 15, none⟩ (.int .i64 ((m.at_ : Int) + 1))) { m with at_ := m.at_ + 1 } back buf from by
    have h9 := hW.setAt (m.at_ + 1)
    rw [show ((m.at_ + 1 : Nat) : Int) = (m.at_ : Int) + 1 by omega] at h9
    exact h9))
  have HH := Lib.hid h
  have hb : (m.at_ : Int) + 1 ≤ 10001 := by omega
  have hlm := h.lm
  have HC := Lib.hid hi
  clear h hi
  go_enter Tryd.func119, Tryd.ntmps119
  go_wp2
  go_quiet (fail)
  go_wp2
  go_quiet (fail)
  go_wp2
  go_ret
  refine ⟨congrArg (fun z => Ending.returned (.int .u32 z)) ?_, (HS.out _ (HH.out.drewN _)).drewN _, fun g hg => heap_setCell_other _ ⟨x.bm, 15, none⟩ g _ hg⟩
  obtain ⟨h1, h2⟩ := List.getElem?_eq_some_iff.1 HC.out
  have h3 : (⟨E.input.toArray⟩ : ByteArray)[m.at_]'h1 = c := by
    rw [← h2]
    show E.input.toArray[m.at_] = _
    exact List.getElem_toArray h1
  rw [h3]
  have := c.toNat_lt
  omega
set_option maxHeartbeats 4000000 in
set_option maxRecDepth 100000 in
theorem memoryD_ok (w' : World) (bm : Nat) (b imm : Int) (hb : 0 ≤ b ∧ b < 4294967296) (hi : -32768 ≤ imm ∧ imm ≤ 32767) (hn : u32 (b + imm) < memN) :
    Calls Tryd.prog 118 #[.pointer (some ⟨bm, 0, none⟩), .int .u32 b, .int .i64 imm] w' fun e w2 => e = .returned (.tuple #[.int .i64 (u32 (b + imm)), .bool true]) ∧ w2 = w' := by
  obtain ⟨b0, b1⟩ := hb
  obtain ⟨i0, i1⟩ := hi
  have q : decide ((524288 : Int) ≤ (b + imm) % 4294967296) = false := decide_eq_false (by unfold u32 memN at hn; omega)
  clear hn
  go_enter Tryd.func118, Tryd.ntmps118
  go_wp2
  refine bodyPost_ret (results_tmp2 rfl _ _ _) rfl ?_
  exact ⟨rfl, rfl⟩
set_option maxHeartbeats 4000000 in
set_option maxRecDepth 100000 in
theorem memoryD_no (h : Sd x E w w' m back buf) (b imm : Int) (hb : 0 ≤ b ∧ b < 4294967296) (hi : -32768 ≤ imm ∧ imm ≤ 32767) (hn : ¬ u32 (b + imm) < memN) :
    Calls Tryd.prog 118 #[.pointer (some ⟨x.bm, 0, none⟩), .int .u32 b, .int .i64 imm] w' fun e w2 => e = .returned (.tuple #[.int .i64 0, .bool false]) ∧ Sd x E w w2 (trap m 6) back buf := by
  have HS := Lib.hid (stop_d h 2 6)
  obtain ⟨b0, b1⟩ := hb
  obtain ⟨i0, i1⟩ := hi
  have q : decide ((524288 : Int) ≤ (b + imm) % 4294967296) = true := decide_eq_true (by unfold u32 memN at hn; omega)
  clear hn h
  go_enter Tryd.func118, Tryd.ntmps118
  go_wp2_with (go_at_call 46; refine HS.out.mono ?_; rintro e w1 ⟨rfl, h1⟩; have H1 := Lib.hid h1; clear h1)
  refine bodyPost_ret (results_tmp2 rfl _ _ _) rfl ?_
  exact ⟨rfl, H1.out⟩
end
end Go.Proofs.YtopceggmdieppaaDoor.Emu
namespace Go.Proofs.YtopceggmdieppaaDoor.Emu
open Go.RowKit Go.Proofs.YtopceggmdieppaaDoor.Enc Go.Proofs.YtopceggmdieppaaDoor.Graph

section
variable {x : Dz} {E : Env} {w w' w1 w2 : World} {m : M} {back buf : Value}
theorem Sd.mem_grown {k : Option Nat} (h : Sd x E w w1 m back buf) (hb : w1.grownBy w2 k) (hk : ∀ g, k = some g → x.N ≤ g) (c : Nat) (u : Value) : ∃ cs, (w2.setCell ⟨x.bm, c, none⟩ u).heap[x.mb]? = some (.cells cs 37 (0, 0)) ∧ cs.size = 524288 ∧ ∀ j, j < 524288 → cs[j]? = some (.int .u32 (m.mem.getD j 0)) := by
  obtain ⟨ms, k3, k4⟩ := h.mem
  refine ⟨ms, ?_, k4⟩
  rw [heap_setCell_other w2 ⟨x.bm, c, none⟩ x.mb u h.ok.bm.symm, hb.block x.mb h.lmb (fun e => by have := hk _ e.symm; have := h.ok.mn; omega)]
  exact k3
theorem Sd.push (h : Sd x E w w1 m back buf) (hb : w1.grownBy w2 back.ownBlock) {back' : Value} {p : Int} (hn : w2.ownsRow x.N 3 1 back' (m.calls.length + 1) ((m.calls.map fun p => .int .i64 p) ++ [.int .i64 p])) (hgn : ∀ g, back'.ownBlock = some g → back.ownBlock = some g ∨ w1.heap.size ≤ g) :
    Sd x E w (w2.setCell ⟨x.bm, 16, none⟩ back') { m with calls := m.calls ++ [p] } back' buf := by
  obtain ⟨cs, k1, k2⟩ := h.mach
  have hnb : ∀ b, b < x.N → some b ≠ back.ownBlock := fun b hb e => by have := (h.backR.lt b e.symm).1; omega
  have hz : x.Z ≤ w1.heap.size := Nat.le_trans h.ok.zb (Nat.le_of_lt h.lm)
  have hzN : x.Z ≤ x.N := Nat.le_trans h.ok.zb (Nat.le_of_lt h.ok.bn)
  have hne : ∀ b, b ≠ x.bm → (w2.setCell ⟨x.bm, 16, none⟩ back').heap[b]? = w2.heap[b]? := fun b hb => heap_setCell_other w2 ⟨x.bm, 16, none⟩ b back' hb
  have hlt : ∀ g, back'.ownBlock = some g → x.N ≤ g := fun g hg => (hn.lt g hg).1
  refine ⟨h.ok, (h.below.grown hb hz (fun k hk => Nat.le_trans hzN (h.backR.lt k hk).1)).setCell (p := ⟨x.bm, 16, none⟩) h.ok.zb _, by simpa using Nat.le_trans h.size hb.size, ⟨_, heap_setCell_same w2 x.bm 16 _ _ _ ((hb.block x.bm h.lm (hnb _ h.ok.bn)).trans k1), k2.put 16 _ rfl (fun j hj hn => by unfold dcell; simp only [hn, if_false])⟩, h.words, h.wz,
    h.mem_grown hb (fun g hg => (h.backR.lt g hg).1) 16 back', ?_, ?_, ?_⟩
  · show World.ownsRow _ x.N _ 1 back' (m.calls ++ [p]).length ((m.calls ++ [p]).map _)
    rw [List.length_append, List.map_append]
    exact own_same hn (fun b hb2 => hne b (by have := hlt b hb2; have := h.ok.bn; omega))
  · refine own_same h.bufR (fun b hb2 => (hne b (by have := (h.bufR.lt b hb2).1; have := h.ok.bn; omega)).trans (hb.block b (h.bufR.lt b hb2).2 (fun e => h.bb b e.symm hb2)))
  · intro g hg hg2
    rcases hgn g hg with h1 | h1
    · exact h.bb g h1 hg2
    · have := (h.bufR.lt g hg2).2; omega
theorem Sd.out (h : Sd x E w w1 m back buf) (hb : w1.grownBy w2 buf.ownBlock) {buf' : Value} {b : UInt8} (hn : w2.ownsRow x.N 5 1 buf' (m.bytes.length + 1) ((m.bytes.map fun b => .int .u8 b.toNat) ++ [.int .u8 b.toNat])) (hgn : ∀ g, buf'.ownBlock = some g → buf.ownBlock = some g ∨ w1.heap.size ≤ g) :
    Sd x E w (w2.setCell ⟨x.bm, 22, none⟩ buf') { m with bytes := m.bytes ++ [b] } back buf' := by
  obtain ⟨cs, k1, k2⟩ := h.mach
  have hnb : ∀ b, b < x.N → some b ≠ buf.ownBlock := fun b hb e => by have := (h.bufR.lt b e.symm).1; omega
  have hz : x.Z ≤ w1.heap.size := Nat.le_trans h.ok.zb (Nat.le_of_lt h.lm)
  have hzN : x.Z ≤ x.N := Nat.le_trans h.ok.zb (Nat.le_of_lt h.ok.bn)
  have hne : ∀ b, b ≠ x.bm → (w2.setCell ⟨x.bm, 22, none⟩ buf').heap[b]? = w2.heap[b]? := fun b hb => heap_setCell_other w2 ⟨x.bm, 22, none⟩ b buf' hb
  have hlt : ∀ g, buf'.ownBlock = some g → x.N ≤ g := fun g hg => (hn.lt g hg).1
  refine ⟨h.ok, (h.below.grown hb hz (fun k hk => Nat.le_trans hzN (h.bufR.lt k hk).1)).setCell (p := ⟨x.bm, 22, none⟩) h.ok.zb _, by simpa using Nat.le_trans h.size hb.size, ⟨_, heap_setCell_same w2 x.bm 22 _ _ _ ((hb.block x.bm h.lm (hnb _ h.ok.bn)).trans k1), k2.put 22 _ rfl (fun j hj hn => by unfold dcell; simp only [hn, if_false])⟩, h.words, h.wz,
    h.mem_grown hb (fun g hg => (h.bufR.lt g hg).1) 22 buf', ?_, ?_, ?_⟩
  · refine own_same h.backR (fun b hb2 => (hne b (by have := (h.backR.lt b hb2).1; have := h.ok.bn; omega)).trans (hb.block b (h.backR.lt b hb2).2 (fun e => h.bb b hb2 e.symm)))
  · show World.ownsRow _ x.N _ 1 buf' (m.bytes ++ [b]).length ((m.bytes ++ [b]).map _)
    rw [List.length_append, List.map_append]
    exact own_same hn (fun b hb2 => hne b (by have := hlt b hb2; have := h.ok.bn; omega))
  · intro g hg hg2
    rcases hgn g hg2 with h1 | h1
    · exact h.bb g hg h1
    · have := (h.backR.lt g hg).2; omega
end
end Go.Proofs.YtopceggmdieppaaDoor.Emu
