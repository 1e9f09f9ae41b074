/- Which branches go: each condition is told. No condition. -/
import Derived.Test.YtopceggmdieppaaDoorBg
import Derived.Deep.AppendLies
import Derived.Deep.RegionLaw
import Derived.RegionDies
import Derived.Recover
import Derived.Defers
import Derived.Laws.Pointers
namespace Go.Proofs.YtopceggmdieppaaDoor.Emu
open Go.RowKit Go.Proofs.YtopceggmdieppaaDoor.Enc Go.Proofs.YtopceggmdieppaaDoor.Graph

theorem le_not (a b : Int) : decide (b ≤ a) = !decide (a < b) := by
  rw [← decide_not]; exact decide_eq_decide.mpr (by omega)
def Tells (op a b : Int) : Prop := ∃ c : Bool, (∀ w, Calls Tryd.prog 114 #[.int .u8 op, .int .u32 a, .int .u32 b] w fun e w' => e = .returned (.bool c) ∧ w' = w) ∧ ∀ w, Calls Tryd.prog 122 #[.int .i64 op, .int .u32 a, .int .u32 b] w fun e w' => e = .returned (.bool c) ∧ w' = w
set_option maxHeartbeats 2000000 in
theorem tells30 (a b : Int) (ha : isW a) (hb : isW b) : Tells 30 a b := by
  obtain ⟨a0, a1⟩ := ha
  obtain ⟨b0, b1⟩ := hb
  apply Exists.intro
  apply And.intro
  · intro w
    go_enter Tryd.func114, Tryd.ntmps114
    go_wp2_with fail
    go_ret
    exact ⟨rfl, rfl⟩
  · intro w
    go_enter Tryd.func122, Tryd.ntmps122
    go_wp2
    go_ret
    exact ⟨rfl, rfl⟩
set_option maxHeartbeats 2000000 in
theorem tells31 (a b : Int) (ha : isW a) (hb : isW b) : Tells 31 a b := by
  obtain ⟨a0, a1⟩ := ha
  obtain ⟨b0, b1⟩ := hb
  apply Exists.intro
  apply And.intro
  · intro w
    go_enter Tryd.func114, Tryd.ntmps114
    go_wp2_with fail
    go_ret
    exact ⟨rfl, rfl⟩
  · intro w
    go_enter Tryd.func122, Tryd.ntmps122
    go_wp2
    go_ret
    exact ⟨rfl, rfl⟩
set_option maxHeartbeats 2000000 in
theorem tells32 (a b : Int) (ha : isW a) (hb : isW b) : Tells 32 a b := by
  have hc := ltS_prog a b ha hb
  obtain ⟨a0, a1⟩ := ha
  obtain ⟨b0, b1⟩ := hb
  apply Exists.intro
  apply And.intro
  · intro w
    go_enter Tryd.func114, Tryd.ntmps114
    go_wp2_with (go_at_call 103; refine (hc _).mono ?_; rintro e w1 ⟨rfl, rfl⟩)
    go_ret
    exact ⟨rfl, rfl⟩
  · intro w
    go_enter Tryd.func122, Tryd.ntmps122
    go_wp2
    go_ret
    exact ⟨rfl, rfl⟩
set_option maxHeartbeats 2000000 in
theorem tells33 (a b : Int) (ha : isW a) (hb : isW b) : Tells 33 a b := by
  have hc := ltS_prog a b ha hb
  obtain ⟨a0, a1⟩ := ha
  obtain ⟨b0, b1⟩ := hb
  apply Exists.intro
  apply And.intro
  · intro w
    go_enter Tryd.func114, Tryd.ntmps114
    go_wp2_with (go_at_call 103; refine (hc _).mono ?_; rintro e w1 ⟨rfl, rfl⟩)
    go_ret
    exact ⟨rfl, rfl⟩
  · intro w
    go_enter Tryd.func122, Tryd.ntmps122
    go_wp2
    go_ret
    exact ⟨congrArg (fun c => Ending.returned (.bool c)) (le_not _ _), rfl⟩
set_option maxHeartbeats 2000000 in
theorem tells34 (a b : Int) (ha : isW a) (hb : isW b) : Tells 34 a b := by
  have hc := ltS_prog b a hb ha
  obtain ⟨a0, a1⟩ := ha
  obtain ⟨b0, b1⟩ := hb
  apply Exists.intro
  apply And.intro
  · intro w
    go_enter Tryd.func114, Tryd.ntmps114
    go_wp2_with (go_at_call 103; refine (hc _).mono ?_; rintro e w1 ⟨rfl, rfl⟩)
    go_ret
    exact ⟨rfl, rfl⟩
  · intro w
    go_enter Tryd.func122, Tryd.ntmps122
    go_wp2
    go_ret
    exact ⟨congrArg (fun c => Ending.returned (.bool c)) (le_not _ _), rfl⟩
set_option maxHeartbeats 2000000 in
theorem tells35 (a b : Int) (ha : isW a) (hb : isW b) : Tells 35 a b := by
  have hc := ltS_prog b a hb ha
  obtain ⟨a0, a1⟩ := ha
  obtain ⟨b0, b1⟩ := hb
  apply Exists.intro
  apply And.intro
  · intro w
    go_enter Tryd.func114, Tryd.ntmps114
    go_wp2_with (go_at_call 103; refine (hc _).mono ?_; rintro e w1 ⟨rfl, rfl⟩)
    go_ret
    exact ⟨rfl, rfl⟩
  · intro w
    go_enter Tryd.func122, Tryd.ntmps122
    go_wp2
    go_ret
    exact ⟨rfl, rfl⟩
set_option maxHeartbeats 2000000 in
theorem tells36 (a b : Int) (ha : isW a) (hb : isW b) : Tells 36 a b := by
  obtain ⟨a0, a1⟩ := ha
  obtain ⟨b0, b1⟩ := hb
  apply Exists.intro
  apply And.intro
  · intro w
    go_enter Tryd.func114, Tryd.ntmps114
    go_wp2_with fail
    go_ret
    exact ⟨rfl, rfl⟩
  · intro w
    go_enter Tryd.func122, Tryd.ntmps122
    go_wp2
    go_ret
    exact ⟨rfl, rfl⟩
set_option maxHeartbeats 2000000 in
theorem tells37 (a b : Int) (ha : isW a) (hb : isW b) : Tells 37 a b := by
  obtain ⟨a0, a1⟩ := ha
  obtain ⟨b0, b1⟩ := hb
  apply Exists.intro
  apply And.intro
  · intro w
    go_enter Tryd.func114, Tryd.ntmps114
    go_wp2_with fail
    go_ret
    exact ⟨rfl, rfl⟩
  · intro w
    go_enter Tryd.func122, Tryd.ntmps122
    go_wp2
    go_ret
    exact ⟨rfl, rfl⟩
set_option maxHeartbeats 2000000 in
theorem tells38 (a b : Int) (ha : isW a) (hb : isW b) : Tells 38 a b := by
  obtain ⟨a0, a1⟩ := ha
  obtain ⟨b0, b1⟩ := hb
  apply Exists.intro
  apply And.intro
  · intro w
    go_enter Tryd.func114, Tryd.ntmps114
    go_wp2_with fail
    go_ret
    exact ⟨rfl, rfl⟩
  · intro w
    go_enter Tryd.func122, Tryd.ntmps122
    go_wp2
    go_ret
    exact ⟨rfl, rfl⟩
set_option maxHeartbeats 2000000 in
theorem tells39 (a b : Int) (ha : isW a) (hb : isW b) : Tells 39 a b := by
  obtain ⟨a0, a1⟩ := ha
  obtain ⟨b0, b1⟩ := hb
  apply Exists.intro
  apply And.intro
  · intro w
    go_enter Tryd.func114, Tryd.ntmps114
    go_wp2_with fail
    go_ret
    exact ⟨rfl, rfl⟩
  · intro w
    go_enter Tryd.func122, Tryd.ntmps122
    go_wp2
    go_ret
    exact ⟨rfl, rfl⟩
theorem tells_all : ∀ (k : Nat), k < 10 → ∀ (a b : Int), isW a → isW b → Tells ((k + 30 : Nat) : Int) a b
  | 0, _, a, b, ha, hb => tells30 a b ha hb
  | 1, _, a, b, ha, hb => tells31 a b ha hb
  | 2, _, a, b, ha, hb => tells32 a b ha hb
  | 3, _, a, b, ha, hb => tells33 a b ha hb
  | 4, _, a, b, ha, hb => tells34 a b ha hb
  | 5, _, a, b, ha, hb => tells35 a b ha hb
  | 6, _, a, b, ha, hb => tells36 a b ha hb
  | 7, _, a, b, ha, hb => tells37 a b ha hb
  | 8, _, a, b, ha, hb => tells38 a b ha hb
  | 9, _, a, b, ha, hb => tells39 a b ha hb
  | n + 10, hk, _, _, _, _ => absurd hk (by omega)
theorem tells_at {op : Int} (h : 30 ≤ op ∧ op ≤ 39) {a b : Int} (ha : isW a) (hb : isW b) : Tells op a b := by
  have := tells_all (op - 30).toNat (by omega) a b ha hb
  rwa [show (((op - 30).toNat + 30 : Nat) : Int) = op by omega] at this
open Classical in
noncomputable def hs (op a b : Int) : Bool :=
  if h : (30 ≤ op ∧ op ≤ 39) ∧ isW a ∧ isW b then Classical.choose (tells_at h.1 h.2.1 h.2.2) else false
theorem holds_prog {op : Int} (h : 30 ≤ op ∧ op ≤ 39) {a b : Int} (ha : isW a) (hb : isW b) (w : World) :
    Calls Tryd.prog 114 #[.int .u8 op, .int .u32 a, .int .u32 b] w fun e w' => e = .returned (.bool (hs op a b)) ∧ w' = w := by
  have := Classical.choose_spec (tells_at h ha hb)
  unfold hs
  rw [dif_pos ⟨h, ha, hb⟩]
  exact this.1 w
/-- The document's holds tells the same. -/
theorem holds_ref {op : Int} (h : 30 ≤ op ∧ op ≤ 39) {a b : Int} (ha : isW a) (hb : isW b) (w : World) :
    Calls Tryd.prog 122 #[.int .i64 op, .int .u32 a, .int .u32 b] w fun e w' => e = .returned (.bool (hs op a b)) ∧ w' = w := by
  have := Classical.choose_spec (tells_at h ha hb)
  unfold hs
  rw [dif_pos ⟨h, ha, hb⟩]
  exact this.2 w
end Go.Proofs.YtopceggmdieppaaDoor.Emu
namespace Go.Proofs.YtopceggmdieppaaDoor.Emu
open Go.RowKit Go.Proofs.YtopceggmdieppaaDoor.Enc Go.Proofs.YtopceggmdieppaaDoor.Graph

/-- A block of which the machine knows nothing. -/
structure Free (x : Fz) (buf back : Value) (pg : Nat → Option Nat) (g : Nat) : Prop where
  z : x.Z ≤ g
  bm : g ≠ x.bm
  mm : g ≠ x.mm
  lb : g ≠ x.lb
  pg : ∀ i, i < 128 → pg i ≠ some g
  back : back.ownBlock ≠ some g
  buf : buf.ownBlock ≠ some g
  pb : g ≠ x.pb
section
variable {x : Fz} {E : Env} {wk : Nat → Value} {w w' w2 : World} {m : M} {ad buf back : Value} {pg : Nat → Option Nat}
theorem St.free (h : St x E wk w w' m ad buf back pg) {g : Nat} (hg : w'.heap.size ≤ g) : Free x buf back pg g := by
  have h1 := h.lm
  have h2 := h.lmm
  have h3 := h.llb
  have h4 := h.ok.zb
  have h5 := h.lpb
  refine ⟨by omega, by omega, by omega, by omega, fun i hi e => ?_, fun e => ?_, fun e => ?_, by omega⟩
  · have := h.mem.lt hi e; omega
  · have := (h.backR.lt g e).2; omega
  · have := (h.bufR.lt g e).2; omega
theorem St.other (h : St x E wk w w' m ad buf back pg) {g : Nat} (hf : Free x buf back pg g) (k : Nat) (v : Value) : St x E wk w (w'.setCell ⟨g, k, none⟩ v) m ad buf back pg := by
  obtain ⟨cs, k1, k2⟩ := h.mach
  obtain ⟨ls, k3, k4⟩ := h.list
  have hne : ∀ b, b ≠ g → (w'.setCell ⟨g, k, none⟩ v).heap[b]? = w'.heap[b]? := fun b hb => heap_setCell_other w' ⟨g, k, none⟩ b v hb
  refine ⟨h.ok, h.below.setCell (p := ⟨g, k, none⟩) hf.z v, by simpa using h.size, ⟨cs, (hne _ hf.bm.symm).trans k1, k2⟩, h.words, h.wz, ⟨ls, (hne _ hf.lb.symm).trans k3, k4⟩, ?_, ?_, ?_, h.ads, h.bb, h.pz, h.nul, (hne _ hf.pb.symm).trans h.box, h.pzb⟩
  · exact h.mem.same (hne _ hf.mm.symm) (fun i g' hi hg => hne g' (fun e => hf.pg i hi (by rw [hg, e])))
  · exact own_same h.backR (fun b hb => hne b (fun e => hf.back (by rw [hb, e])))
  · exact own_same h.bufR (fun b hb => hne b (fun e => hf.buf (by rw [hb, e])))
abbrev iV (c : PC) : Value := .agg #[.int .u8 c.op, .int .u8 c.a, .int .u8 c.b, .int .i32 c.imm]
def NextPost (x : Fz) (E : Env) (wk : Nat → Value) (w : World) (m : M) (ad buf back : Value) (pg : Nat → Option Nat) (e : Ending) (w2 : World) : Prop :=
  ((0 ≤ m.place ∧ m.place < E.words.length) ∧ e = .returned (iV (insP (E.words.getD m.place.toNat 0))) ∧ St x E wk w w2 { m with place := m.place + 1 } ad buf back pg) ∨
  (¬ (0 ≤ m.place ∧ m.place < E.words.length) ∧ e = thrown 5 ∧ St x E wk w w2 m ad buf back pg)
set_option maxHeartbeats 4000000 in
set_option maxRecDepth 100000 in
theorem next_prog (h : St x E wk w w' m ad buf back pg) (hE : E.words.length ≤ 65536) (hp : -4611686018427387904 ≤ m.place ∧ m.place < 4611686018427387904) :
    Calls Tryd.prog 71 #[.pointer (some ⟨x.bm, 0, none⟩)] w' (NextPost x E wk w m ad buf back pg) := by
  have HS := Lib.hid (fun o => stands_prog (h.alloc o) hE (u64 m.place) (by unfold u64; omega))
  have hu := u64_lt hE ⟨by omega, by omega⟩ (p := m.place)
  have hlb := h.lm
  have hll := h.llb
  have HF := Lib.hid (h.free (Nat.le_refl _))
  obtain ⟨c19, f19⟩ := h.cell (k := 19) (by decide)
  change _ = some (Value.int .i64 m.place) at c19
  obtain ⟨c1, f1⟩ := h.cell (k := 1) (by decide)
  change _ = some (Value.slice (some ⟨x.lb, 0, none⟩) E.words.length E.words.length) at c1
  obtain ⟨ls, k3, k4⟩ := h.list
  have HH := Lib.hid h
  by_cases hlt : 0 ≤ m.place ∧ m.place < E.words.length
  · have h6 : IntKind.i64.wrap (m.place + 1) = m.place + 1 := by rw [IntKind.wrap_i64]; omega
    obtain ⟨q0, q1, q2, q3⟩ := k4 m.place.toNat (by omega)
    have l0 := (cell_of_block k3 q0).1
    have l1 := (cell_of_block k3 q1).1
    have l2 := (cell_of_block k3 q2).1
    have l3 := (cell_of_block k3 q3).1
    rw [Nat.mul_comm] at l0 l1 l2 l3
    have HP := Lib.hid (show ∀ e w2, (e = Ending.returned (iV (insP (E.words.getD m.place.toNat 0))) ∧ St x E wk w w2 { m with place := m.place + 1 } ad buf back pg) → NextPost x E wk w m ad buf back pg e w2 from fun e w2 he => .inl ⟨hlt, he⟩)
    have i0 : u64 m.place = m.place := by unfold u64; omega
    have i1 : (decide (u64 m.place < (E.words.length : Int))) = true := by simp [hu.2 hlt]
    rw [i1, i0] at HS
    have b0 := hlt.1
    have b1 := hlt.2
    generalize insP (E.words.getD m.place.toNat 0) = c at *
    generalize m.place = p at *
    clear h hu i0 hlt k3 k4 q0 q1 q2 q3 i1
    refine Calls.mono ?_ HP.out
    go_enter Tryd.func71, Tryd.ntmps71
    go_wp2_with (go_at_call 116; refine (HS.out _).mono ?_; rintro e w1 ⟨rfl, rfl⟩)
    go_region
    all_goals
      go_wp2
      refine bodyPost_ret (v := iV c) (by simp [results, Tryd.results71, go_sem]) rfl ⟨rfl, ?_⟩
      repeat' first | exact HH.out.setPlace _ | apply St.alloc | apply St.drew
  · have HP := Lib.hid (show ∀ e w2, (e = thrown 5 ∧ St x E wk w w2 m ad buf back pg) → NextPost x E wk w m ad buf back pg e w2 from fun e w2 he => .inr ⟨hlt, he⟩)
    have i0 : u64 m.place = m.place % 18446744073709551616 := rfl
    have i1 : (decide (u64 m.place < (E.words.length : Int))) = false := by simp only [decide_eq_false_iff_not]; exact fun h => hlt (hu.1 h)
    rw [i1, i0] at HS
    generalize m.place = p at *
    clear h hu i0 hlt k3 k4 i1
    refine Calls.mono ?_ HP.out
    go_enter Tryd.func71, Tryd.ntmps71
    go_wp2_with (go_at_call 116; refine (HS.out _).mono ?_; rintro e w1 ⟨rfl, rfl⟩)
    exact ⟨rfl, rfl, HH.out.alloc _⟩
end
end Go.Proofs.YtopceggmdieppaaDoor.Emu
namespace Go.Proofs.YtopceggmdieppaaDoor.Emu
open Go.RowKit Go.Proofs.YtopceggmdieppaaDoor.Enc Go.Proofs.YtopceggmdieppaaDoor.Graph

/-- A step comes to the plain machine's, or throws the trap that that one has. (T: it is the trap's own instruction.) -/
def DoPost (x : Fz) (E : Env) (wk : Nat → Value) (w : World) (m mo : M) (T : Prop) (e : Ending) (w2 : World) : Prop :=
  ((mo.stop ≠ 2 ∨ T) ∧ e = .returned (.tuple #[]) ∧ ∃ ad buf back pg, St x E wk w w2 mo ad buf back pg) ∨
  (¬ (mo.stop ≠ 2 ∨ T) ∧ e = thrown mo.code ∧ mo.bytes = m.bytes ∧ mo.steps = m.steps ∧ ∃ m2 ad buf back pg, m2.bytes = m.bytes ∧ m2.steps = m.steps ∧ St x E wk w w2 m2 ad buf back pg)
section
variable {x : Fz} {E : Env} {wk : Nat → Value} {w w' w2 : World} {m : M} {ad buf back : Value} {pg : Nat → Option Nat}
theorem DoPost.ok {mo : M} {T : Prop} {e : Ending} (h0 : m.stop = 0) (he : e = .returned (.tuple #[])) (h : St x E wk w w2 mo ad buf back pg) (hs : mo.stop = m.stop) : DoPost x E wk w m mo T e w2 := .inl ⟨.inl (by rw [hs, h0]; decide), he, _, _, _, _, h⟩
theorem DoPost.trap {T : Prop} {k : Int} {m2 : M} {e : Ending} (hT : ¬ T) (he : e = thrown k) (hb : m2.bytes = m.bytes) (hs : m2.steps = m.steps) (h : St x E wk w w2 m2 ad buf back pg) : DoPost x E wk w m (trap m k) T e w2 :=
  .inr ⟨fun h => h.elim (fun h => h rfl) hT, he, rfl, rfl, m2, _, _, _, _, hb, hs, h⟩
/-- What has happened, where it goes on; where it does not. -/
theorem DoPost.went {mo : M} {T : Prop} {e : Ending} (hc : mo.stop ≠ 2 ∨ T) (h : DoPost x E wk w m mo T e w2) : e = .returned (.tuple #[]) ∧ ∃ ad buf back pg, St x E wk w w2 mo ad buf back pg := by
  rcases h with h | h
  · exact h.2
  · exact absurd hc h.1
theorem DoPost.fell {mo : M} {T : Prop} {e : Ending} (hc : ¬ (mo.stop ≠ 2 ∨ T)) (h : DoPost x E wk w m mo T e w2) : e = thrown mo.code ∧ mo.bytes = m.bytes ∧ mo.steps = m.steps ∧ ∃ m2 ad buf back pg, m2.bytes = m.bytes ∧ m2.steps = m.steps ∧ St x E wk w w2 m2 ad buf back pg := by
  rcases h with h | h
  · exact absurd h.1 hc
  · exact h.2
theorem DoPost.of_went {mo : M} {T : Prop} {e : Ending} (hc : mo.stop ≠ 2 ∨ T) (h : e = .returned (.tuple #[]) ∧ ∃ ad buf back pg, St x E wk w w2 mo ad buf back pg) : DoPost x E wk w m mo T e w2 := .inl ⟨hc, h⟩
theorem DoPost.of_fell {mo : M} {T : Prop} {e : Ending} (hc : ¬ (mo.stop ≠ 2 ∨ T)) (h : e = thrown mo.code ∧ mo.bytes = m.bytes ∧ mo.steps = m.steps ∧ ∃ m2 ad buf back pg, m2.bytes = m.bytes ∧ m2.steps = m.steps ∧ St x E wk w w2 m2 ad buf back pg) : DoPost x E wk w m mo T e w2 := .inr ⟨hc, h⟩
theorem behind_ok (h : St x E wk w w' m ad buf back pg) (hE : E.words.length ≤ 65536) (hlt : 0 ≤ m.place ∧ m.place < E.words.length) :
    Calls Tryd.prog 108 #[.pointer (some ⟨x.bm, 0, none⟩)] w' fun e w2 => e = .returned (.int .u32 (E.words.getD m.place.toNat 0)) ∧ St x E wk w w2 { m with place := m.place + 1 } ad buf back pg := by
  refine (behind_prog h hE ⟨by omega, by omega⟩).mono ?_
  rintro e w2 (⟨_, h1⟩ | ⟨h1, _⟩)
  · exact h1
  · exact absurd hlt h1
theorem behind_no (h : St x E wk w w' m ad buf back pg) (hE : E.words.length ≤ 65536) (hp : -4611686018427387904 ≤ m.place ∧ m.place < 4611686018427387904) (hlt : ¬ (0 ≤ m.place ∧ m.place < E.words.length)) :
    Calls Tryd.prog 108 #[.pointer (some ⟨x.bm, 0, none⟩)] w' fun e w2 => e = thrown 5 ∧ w2 = w' := by
  refine (behind_prog h hE hp).mono ?_
  rintro e w2 (⟨h1, _⟩ | ⟨_, h1⟩)
  · exact absurd h1 hlt
  · exact h1
def tableP (E : Env) (m : M) (n : Int) : M :=
  match wordAt E m.place with
  | none => trap m 5
  | some b => if b ≤ n then trap m 7 else match wordAt E (m.place + 1 + n) with
    | none => trap m 5
    | some t => { m with place := t }
set_option maxHeartbeats 4000000 in
set_option maxRecDepth 100000 in
theorem table_prog (h : St x E wk w w' m ad buf back pg) (h0 : m.stop = 0) (hE : EnvOk E) (hp : 0 ≤ m.place ∧ m.place ≤ 65536) (n : Int) (hn : isW n) :
    Calls Tryd.prog 128 #[.pointer (some ⟨x.bm, 0, none⟩), .int .u32 n] w' (DoPost x E wk w m (tableP E m n) False) := by
  obtain ⟨n0, n1⟩ := hn
  by_cases hlt : 0 ≤ m.place ∧ m.place < E.words.length
  · have HB := Lib.hid (behind_ok h hE.len hlt)
    have hv : isW (E.words.getD m.place.toNat 0) := isW_getD hE.words _
    have hmo : tableP E m n = if E.words.getD m.place.toNat 0 ≤ n then trap m 7 else match wordAt E (m.place + 1 + n) with
      | none => trap m 5
      | some t => { m with place := t } := by unfold tableP; rw [wordAt_some hlt]
    rw [hmo]
    obtain ⟨v0, v1⟩ := hv
    generalize E.words.getD m.place.toNat 0 = v at *
    by_cases hle : v ≤ n
    · rw [if_pos hle]
      have HP := Lib.hid (fun (e : Ending) (w2 : World) (he : e = thrown 7 ∧ St x E wk w w2 { m with place := m.place + 1 } ad buf back pg) => DoPost.trap (T := False) (m := m) (m2 := { m with place := m.place + 1 }) (fun h => h) he.1 rfl rfl he.2)
      have hp0 := hp.1
      clear h hmo hlt
      generalize m.place = p at *
      refine Calls.mono ?_ HP.out
      go_enter Tryd.func128, Tryd.ntmps128
      go_wp2_with (go_at_call 108; refine HB.out.mono ?_; rintro e w1 ⟨rfl, h1⟩; have H1 := Lib.hid h1; clear h1)
      exact ⟨rfl, rfl, H1.out⟩
    · rw [if_neg hle]
      have hp0 : 0 ≤ m.place := hp.1
      by_cases hl2 : m.place + 1 + n < E.words.length
      · rw [wordAt_some ⟨by omega, hl2⟩]
        have HP := Lib.hid (fun (e : Ending) (w2 : World) (he : e = .returned (.tuple #[]) ∧ St x E wk w w2 { m with place := E.words.getD (m.place + 1 + n).toNat 0 } ad buf back pg) => DoPost.ok (m := m) (T := False) h0 he.1 he.2 rfl)
        have hu : isW (E.words.getD (m.place + 1 + n).toNat 0) := isW_getD hE.words _
        obtain ⟨u0, u1⟩ := hu
        have HW := Lib.hid (fun (w1 : World) (h1 : St x E wk w w1 { m with place := m.place + 1 } ad buf back pg) => (word_prog h1 hE.len (m.place + 1 + n) ⟨by omega, by omega⟩).mono (R' := fun e w2 => e = .returned (.int .u32 (E.words.getD (m.place + 1 + n).toNat 0)) ∧ w2 = w1) fun e w2 he => ⟨he.1 hl2, he.2.2⟩)
        have HC := Lib.hid (fun (w1 : World) (h1 : St x E wk w w1 { m with place := m.place + 1 } ad buf back pg) => (show w1.cell? ⟨x.bm, 19, none⟩ = some (.int .i64 (m.place + 1)) ∧ w1.frozen? ⟨x.bm, 19, none⟩ = false from h1.cell (k := 19) (by decide)))
        have HS := Lib.hid (fun (w1 : World) (h1 : St x E wk w w1 { m with place := m.place + 1 } ad buf back pg) => h1.setPlace (E.words.getD (m.place + 1 + n).toNat 0))
        have hp1 := hlt.2
        have hl3 := hE.len
        clear h hmo hlt hl2 hE
        generalize E.words.getD (m.place + 1 + n).toNat 0 = u at *
        generalize m.place = p at *
        refine Calls.mono ?_ HP.out
        go_enter Tryd.func128, Tryd.ntmps128
        go_wp2_with (first
          | (go_at_call 108; refine HB.out.mono ?_; rintro e w1 ⟨rfl, h1⟩; obtain ⟨c19, f19⟩ := HC.out w1 h1; have hlm := h1.lm; have H1 := Lib.hid h1; clear h1)
          | (go_at_call 126; refine (HW.out _ H1.out).mono ?_; rintro e w2 ⟨rfl, hw2⟩; have hw3 := hw2.symm; clear hw2; subst hw3))
        go_end0
        exact ⟨rfl, HS.out _ H1.out⟩
      · rw [wordAt_none (fun h => hl2 h.2)]
        have HP := Lib.hid (fun (e : Ending) (w2 : World) (he : e = thrown 5 ∧ St x E wk w w2 { m with place := m.place + 1 } ad buf back pg) => DoPost.trap (T := False) (m := m) (m2 := { m with place := m.place + 1 }) (fun h => h) he.1 rfl rfl he.2)
        have HW := Lib.hid (fun (w1 : World) (h1 : St x E wk w w1 { m with place := m.place + 1 } ad buf back pg) => (word_prog h1 hE.len (m.place + 1 + n) ⟨by omega, by omega⟩).mono (R' := fun e w2 => e = thrown 5 ∧ w2 = w1) fun e w2 he => ⟨he.2.1 hl2, he.2.2⟩)
        have HC := Lib.hid (fun (w1 : World) (h1 : St x E wk w w1 { m with place := m.place + 1 } ad buf back pg) => (show w1.cell? ⟨x.bm, 19, none⟩ = some (.int .i64 (m.place + 1)) ∧ w1.frozen? ⟨x.bm, 19, none⟩ = false from h1.cell (k := 19) (by decide)))
        have hp1 := hlt.2
        have hl3 := hE.len
        clear h hmo hlt hl2 hE
        generalize m.place = p at *
        refine Calls.mono ?_ HP.out
        go_enter Tryd.func128, Tryd.ntmps128
        go_wp2_with (first
          | (go_at_call 108; refine HB.out.mono ?_; rintro e w1 ⟨rfl, h1⟩; obtain ⟨c19, f19⟩ := HC.out w1 h1; have hlm := h1.lm; have H1 := Lib.hid h1; clear h1)
          | (go_at_call 126; refine (HW.out _ H1.out).mono ?_; rintro e w2 ⟨rfl, hw2⟩; have hw3 := hw2.symm; clear hw2; subst hw3))
        exact ⟨rfl, rfl, H1.out⟩
  · have hmo : tableP E m n = trap m 5 := by unfold tableP; rw [wordAt_none hlt]
    rw [hmo]
    have HB := Lib.hid (behind_no h hE.len ⟨by omega, by omega⟩ hlt)
    have HP := Lib.hid (fun (e : Ending) (w2 : World) (he : e = thrown 5 ∧ St x E wk w w2 m ad buf back pg) => DoPost.trap (T := False) (m := m) (m2 := m) (fun h => h) he.1 rfl rfl he.2)
    have HH := Lib.hid h
    clear h hmo hlt
    refine Calls.mono ?_ HP.out
    go_enter Tryd.func128, Tryd.ntmps128
    go_wp2_with (go_at_call 108; refine HB.out.mono ?_; rintro e w1 ⟨rfl, hw2⟩; have hw3 := hw2.symm; clear hw2; subst hw3)
    exact ⟨rfl, rfl, HH.out⟩
end
end Go.Proofs.YtopceggmdieppaaDoor.Emu
namespace Go.Proofs.YtopceggmdieppaaDoor.Emu
open Go.RowKit Go.Proofs.YtopceggmdieppaaDoor.Enc Go.Proofs.YtopceggmdieppaaDoor.Graph

theorem one_newsE {w : World} {b : Nat} {u : Value} (h : w.cell? ⟨b, 0, none⟩ = some u) : ∀ (j : Nat) y, ([u] : List Value)[j]? = some y → w.cell? (Addr.add ⟨b, 0, none⟩ j) = some y := by
  intro j y hj
  match j, hj with
  | 0, hj => simp at hj; subst hj; simpa [Addr.add] using h
/-- One cell appended to a row of one's own: where the row lies then. -/
theorem append_cell {w : World} {ops : Array Oper} {rest : List Oper} {o : Oper} {a : Act} {Q : Exit → Act → World → Prop} (hgd : o.guard = none) (s x : Operand) (t e : TypeId) (z : Value) (by_ : Nat)
    (ho : o.op = .call { callee := .builtin .append, args := #[s, x], argTypes := #[t, t] }) (ht : Tryd.prog.underlying t = some (.slice e)) (hinfo : (Tryd.prog.info? e).map (fun i => (i.zero, i.size, i.bytes)) = some (some z, 1, by_)) (hz : z.cells.size = 1) (hby : 1 ≤ by_ ∧ by_ ≤ 8)
    (B : Nat) (v : Value) (n : Nat) (ys : List Value) (hs : a.eval s = v) (hown : w.ownsRow B e 1 v n ys) (hB : B ≤ w.heap.size) (u : Value) (h1 : u.oneCell' = true) (b c : Nat) (hx : a.eval x = .slice (some ⟨b, 0, none⟩) 1 c) (hnews : w.cell? ⟨b, 0, none⟩ = some u) (hn : n ≤ 1000000)
    (h : ∀ g cap w', w'.ownsRow B e 1 (.slice (some ⟨g, 0, none⟩) (n + 1) cap) (n + 1) (ys ++ [u]) → w.grownBy w' v.ownBlock → (v.ownBlock = some g ∨ g = w.heap.size) → wpList Tryd.prog ops Q rest (a.put o.dst (.slice (some ⟨g, 0, none⟩) (n + 1) cap)) w') : wpList Tryd.prog ops Q (o :: rest) a w := by
  obtain ⟨i0, HI, hz0, hz1, hz2⟩ := info_parts hinfo
  have hm : (n + 1) * by_ ≤ (n + 1) * 8 := Nat.mul_le_mul_left _ hby.2
  refine wpList_append_lies w hgd s x t ho B e i0 z 1 by_ ht HI hz0 hz1 hz2 hz (by omega) v n ys hs hown ⟨b, 0, none⟩ 1 c [u] hx rfl (one_newsE hnews) (fun y hy => by rw [List.mem_singleton.1 hy]; exact h1) (by omega) (by unfold maxLen; omega) (by omega) hB _ rfl ?_
  intro g cap w' h5 h6 h7 _
  exact h g cap w' h5 h6 h7
theorem add0 (g n : Nat) : Addr.add ⟨g, 0, none⟩ n = ⟨g, n, none⟩ := by
  simp only [Addr.add, Nat.zero_add]
  split <;> simp_all
theorem info_intE : (Tryd.prog.info? 3).map (fun i => (i.zero, i.size, i.bytes)) = some (some (.int .i64 0), 1, 8) := by kernel_rfl
section
variable {x : Fz} {E : Env} {wk : Nat → Value} {w w' w1 w2 : World} {m : M} {ad buf back : Value} {pg : Nat → Option Nat}
theorem St.push (h : St x E wk w w1 m ad buf back pg) (hb : w1.grownBy w2 back.ownBlock) {back' : Value} {p : Int} (hn : w2.ownsRow x.N 3 1 back' (m.calls.length + 1) ((m.calls.map fun p => .int .i64 p) ++ [.int .i64 p])) (hgn : ∀ g, back'.ownBlock = some g → back.ownBlock = some g ∨ w1.heap.size ≤ g) :
    St x E wk w (w2.setCell ⟨x.bm, 18, none⟩ back') { m with calls := m.calls ++ [p] } ad buf back' pg := by
  obtain ⟨cs, k1, k2⟩ := h.mach
  obtain ⟨ls, k3, k4⟩ := h.list
  have hnb : ∀ b, b < x.N → some b ≠ back.ownBlock := fun b hb e => by have := (h.backR.lt b e.symm).1; omega
  have hz : x.Z ≤ w1.heap.size := Nat.le_trans h.ok.zb (Nat.le_of_lt h.lm)
  have hzN : x.Z ≤ x.N := Nat.le_trans h.ok.zb (Nat.le_of_lt h.ok.bn)
  have hsz := hb.size
  have hne : ∀ b, b ≠ x.bm → (w2.setCell ⟨x.bm, 18, none⟩ back').heap[b]? = w2.heap[b]? := fun b hb => heap_setCell_other w2 ⟨x.bm, 18, none⟩ b back' hb
  have hlt : ∀ g, back'.ownBlock = some g → x.N ≤ g := fun g hg => (hn.lt g hg).1
  refine ⟨h.ok, (h.below.grown hb hz (fun k hk => Nat.le_trans hzN (h.backR.lt k hk).1)).setCell (p := ⟨x.bm, 18, none⟩) h.ok.zb _, by simpa using Nat.le_trans h.size hsz, ⟨_, heap_setCell_same w2 x.bm 18 _ _ _ ((hb.block x.bm h.lm (hnb _ h.ok.bn)).trans k1), k2.put 18 _ rfl (fun j hj hn => by unfold cellOf Fz.mv; simp only [hn, if_false])⟩, h.words, h.wz,
    ⟨ls, (hne _ h.ok.bl.symm).trans ((hb.block x.lb h.llb (hnb _ h.ok.ln)).trans k3), k4⟩, ?_, ?_, ?_, h.ads, ?_, ?_, h.nul, (hne _ h.ok.pb).trans ((hb.block x.pb h.lpb (hnb _ h.ok.pn)).trans h.box), h.pzb⟩
  · refine h.mem.same ((hne _ h.ok.bm.symm).trans (hb.block x.mm h.lmm (hnb _ h.ok.mn))) (fun i g hi hg => (hne g (h.pz i g hi hg).2.1).trans (hb.block g (h.mem.lt hi hg) (fun e => (h.pz i g hi hg).2.2.2.1 e.symm)))
  · show World.ownsRow _ x.N _ 1 back' (m.calls ++ [p]).length ((m.calls ++ [p]).map _)
    rw [List.length_append, List.map_append]
    exact own_same hn (fun b hb2 => hne b (by have := hlt b hb2; have := h.ok.bn; omega))
  · refine own_same h.bufR (fun b hb2 => (hne b (by have := (h.bufR.lt b hb2).1; have := h.ok.bn; omega)).trans (hb.block b (h.bufR.lt b hb2).2 (fun e => h.bb b e.symm hb2)))
  · intro g hg hg2
    rcases hgn g hg with h1 | h1
    · exact h.bb g h1 hg2
    · have := (h.bufR.lt g hg2).2; omega
  · intro i g hi hg
    obtain ⟨p1, p2, p3, p4, p5⟩ := h.pz i g hi hg
    refine ⟨p1, p2, p3, fun e => ?_, p5⟩
    rcases hgn g e with h1 | h1
    · exact p4 h1
    · have := h.mem.lt hi hg; omega
theorem St.backForm (h : St x E wk w w' m ad buf back pg) : ∃ p c, back = .slice p m.calls.length c := by
  rcases h.backR.2 with ⟨rfl, h0⟩ | ⟨g, cap, cur, rfl, _⟩
  · exact ⟨none, 0, by rw [h0]⟩
  · exact ⟨_, _, rfl⟩
/-- The last place to come back to, and the row without it. -/
theorem St.top (h : St x E wk w w' m ad buf back pg) {l : List Int} {p : Int} (hm : m.calls = l ++ [p]) : ∃ g c, back = .slice (some ⟨g, 0, none⟩) (l.length + 1) c ∧ l.length + 1 ≤ c ∧ w'.cell? ⟨g, l.length, none⟩ = some (.int .i64 p) ∧ g ≠ x.bm ∧
    St x E wk w (w'.setCell ⟨x.bm, 18, none⟩ (.slice (some ⟨g, 0, none⟩) l.length c)) { m with calls := l } ad buf (.slice (some ⟨g, 0, none⟩) l.length c) pg := by
  have hR := h.backR
  rw [hm] at hR
  simp only [List.length_append, List.length_cons, List.length_nil, Nat.zero_add, List.map_append, List.map_cons, List.map_nil] at hR
  rcases hR.2 with ⟨_, h0⟩ | ⟨g, cap, cur, hv, hNg, hbg, hnc, hcm, hcs, htake⟩
  · omega
  have hcell := hR.cells (g := g) (by rw [hv]; rfl) l.length (.int .i64 p) (by simp)
  have hgm : g ≠ x.bm := by have := h.ok.bn; omega
  refine ⟨g, cap, hv, hnc, by rw [add0] at hcell; exact hcell, hgm, ?_⟩
  have hob : back.ownBlock = some g := by rw [hv]; rfl
  obtain ⟨cs, k1, k2⟩ := h.mach
  obtain ⟨ls, k3, k4⟩ := h.list
  have hne : ∀ b, b ≠ x.bm → (w'.setCell ⟨x.bm, 18, none⟩ (.slice (some ⟨g, 0, none⟩) l.length cap)).heap[b]? = w'.heap[b]? := fun b hb => heap_setCell_other w' ⟨x.bm, 18, none⟩ b _ hb
  refine ⟨h.ok, h.below.setCell (p := ⟨x.bm, 18, none⟩) h.ok.zb _, by simpa using h.size, ⟨_, heap_setCell_same w' x.bm 18 _ _ _ k1, k2.put 18 _ rfl (fun j hj hn => by unfold cellOf Fz.mv; simp only [hn, if_false])⟩, h.words, h.wz, ⟨ls, (hne _ h.ok.bl.symm).trans k3, k4⟩, ?_, ?_, ?_, h.ads, ?_, ?_, h.nul, (hne _ h.ok.pb).trans h.box, h.pzb⟩
  · exact h.mem.same (hne _ h.ok.bm.symm) (fun i g hi hg => hne g (h.pz i g hi hg).2.1)
  · show World.ownsRow _ x.N _ 1 (.slice (some ⟨g, 0, none⟩) l.length cap) l.length (l.map fun p => .int .i64 p)
    have h1 := congrArg (List.take (l.length * 1)) htake
    rw [List.take_take, Nat.min_eq_left (by omega), Nat.mul_one, List.take_append_of_le_length (by simp), List.take_of_length_le (l := l.map _) (by simp)] at h1
    exact ⟨by simp, .inr ⟨g, cap, cur, rfl, hNg, (hne g hgm).trans hbg, by omega, hcm, hcs, by rw [Nat.mul_one]; exact h1⟩⟩
  · exact own_same h.bufR (fun b hb => hne b (by have := (h.bufR.lt b hb).1; have := h.ok.bn; omega))
  · intro b hb; exact h.bb b (by rw [hob]; exact hb)
  · intro i g' hi hg
    obtain ⟨p1, p2, p3, p4, p5⟩ := h.pz i g' hi hg
    exact ⟨p1, p2, p3, fun e => p4 (by rw [hob]; exact e), p5⟩
set_option maxHeartbeats 4000000 in
set_option maxRecDepth 100000 in
theorem jump40 (h : St x E wk w w' m ad buf back pg) (h0 : m.stop = 0) (hp : near40 m.place) (a b imm : Int) (hi : -32768 ≤ imm ∧ imm ≤ 32767) :
    Calls Tryd.prog 113 #[.pointer (some ⟨x.bm, 0, none⟩), iV ⟨40, a, b, imm⟩] w' (DoPost x E wk w m (doStep E m ⟨40, a, b, imm⟩) False) := by
  have hmo : doStep E m ⟨40, a, b, imm⟩ = { m with place := m.place + imm } := by simp [doStep, plainStep, goesStep, followsP]
  rw [hmo]
  have HP := Lib.hid (fun (e : Ending) (w2 : World) (he : e = .returned (.tuple #[]) ∧ St x E wk w w2 { m with place := m.place + imm } ad buf back pg) => DoPost.ok (m := m) (T := False) h0 he.1 he.2 rfl)
  obtain ⟨c19, f19⟩ := h.cell (k := 19) (by decide)
  change _ = some (Value.int .i64 m.place) at c19
  have hlm := h.lm
  have HS := Lib.hid (h.setPlace (m.place + imm))
  obtain ⟨p0, p1⟩ := hp
  obtain ⟨i0, i1⟩ := hi
  clear h hmo
  generalize m.place = p at *
  refine Calls.mono ?_ HP.out
  go_enter Tryd.func113, Tryd.ntmps113
  go_wp2
  go_region
  all_goals
    go_wp2
    go_end0
    refine ⟨rfl, ?_⟩
    repeat' first | exact HS.out | apply St.alloc | apply St.drew
set_option maxHeartbeats 4000000 in
set_option maxRecDepth 100000 in
theorem jump41 (h : St x E wk w w' m ad buf back pg) (h0 : m.stop = 0) (hE : EnvOk E) (hp : 0 ≤ m.place ∧ m.place ≤ 65536) (a b imm : Int) :
    Calls Tryd.prog 113 #[.pointer (some ⟨x.bm, 0, none⟩), iV ⟨41, a, b, imm⟩] w' (DoPost x E wk w m (doStep E m ⟨41, a, b, imm⟩) False) := by
  have hmo : doStep E m ⟨41, a, b, imm⟩ = match wordAt E m.place with | none => trap m 5 | some v => { m with place := v } := by simp [doStep, plainStep, goesStep, followsP]; cases wordAt E m.place <;> rfl
  rw [hmo]
  have HH := Lib.hid h
  by_cases hlt : 0 ≤ m.place ∧ m.place < E.words.length
  · rw [wordAt_some hlt]
    have HB := Lib.hid (fun o => behind_ok (h.alloc o) hE.len hlt)
    have hv : isW (E.words.getD m.place.toNat 0) := isW_getD hE.words _
    have HC := Lib.hid (fun (w1 : World) (h1 : St x E wk w w1 { m with place := m.place + 1 } ad buf back pg) => (show w1.cell? ⟨x.bm, 19, none⟩ = some (.int .i64 (m.place + 1)) ∧ w1.frozen? ⟨x.bm, 19, none⟩ = false from h1.cell (k := 19) (by decide)))
    have HS := Lib.hid (fun (w1 : World) (h1 : St x E wk w w1 { m with place := m.place + 1 } ad buf back pg) => h1.setPlace (E.words.getD m.place.toNat 0))
    have HP := Lib.hid (fun (e : Ending) (w2 : World) (he : e = .returned (.tuple #[]) ∧ St x E wk w w2 { m with place := E.words.getD m.place.toNat 0 } ad buf back pg) => DoPost.ok (m := m) (T := False) h0 he.1 he.2 rfl)
    obtain ⟨v0, v1⟩ := hv
    generalize E.words.getD m.place.toNat 0 = v at *
    clear h hmo hlt hp
    generalize m.place = p at *
    refine Calls.mono ?_ HP.out
    go_enter Tryd.func113, Tryd.ntmps113
    go_wp2_with (go_at_call 108; refine (HB.out _).mono ?_; rintro e w1 ⟨rfl, h1⟩; obtain ⟨c19, f19⟩ := HC.out w1 h1; have hlm := h1.lm; have H1 := Lib.hid h1; clear h1)
    go_end0
    exact ⟨rfl, HS.out _ H1.out⟩
  · rw [wordAt_none hlt]
    have HB := Lib.hid (fun o => behind_no (h.alloc o) hE.len ⟨by omega, by omega⟩ hlt)
    have HP := Lib.hid (fun (e : Ending) (w2 : World) (he : e = thrown 5 ∧ St x E wk w w2 m ad buf back pg) => DoPost.trap (T := False) (m := m) (m2 := m) (fun h => h) he.1 rfl rfl he.2)
    clear h hmo hlt
    refine Calls.mono ?_ HP.out
    go_enter Tryd.func113, Tryd.ntmps113
    go_wp2_with (go_at_call 108; refine (HB.out _).mono ?_; rintro e w1 ⟨rfl, hw2⟩; have hw3 := hw2.symm; clear hw2; subst hw3)
    exact ⟨rfl, rfl, HH.out.alloc _⟩
set_option maxHeartbeats 4000000 in
set_option maxRecDepth 100000 in
theorem jump42 (h : St x E wk w w' m ad buf back pg) (h0 : m.stop = 0) (hI : Inv m) (hE : EnvOk E) (hp : 0 ≤ m.place ∧ m.place ≤ 65536) (a : Nat) (b imm : Int) (ha : a < 12) :
    Calls Tryd.prog 113 #[.pointer (some ⟨x.bm, 0, none⟩), iV ⟨42, a, b, imm⟩] w' (DoPost x E wk w m (doStep E m ⟨42, a, b, imm⟩) False) := by
  have hmo : doStep E m ⟨42, a, b, imm⟩ = tableP E m (reg m a) := by simp [doStep, plainStep, goesStep, followsP, tableP]; cases wordAt E m.place <;> rfl
  rw [hmo]
  have hv := hI.reg a
  have HT := Lib.hid (fun (w1 : World) (h1 : Below w'.heap.size w' w1) => table_prog (h.go h1) h0 hE hp (reg m a) hv)
  obtain ⟨ca, fa⟩ := h.cell (k := 2 + a) (by omega)
  rw [cellOf_reg _ ha] at ca
  change _ = some (Value.int .u32 (reg m a)) at ca
  have hlm := h.lm
  obtain ⟨v0, v1⟩ := hv
  have HI := Lib.hid hI
  have ha2 : (a : Int) < 12 := by omega
  clear h hmo hI
  generalize reg m a = v at *
  by_cases hc : (tableP E m v).stop ≠ 2 ∨ False
  · have HTW := Lib.hid (fun (w1 : World) (h1 : Below w'.heap.size w' w1) => (HT.out w1 h1).mono (fun e w2 hd => hd.went hc))
    have HP := Lib.hid (fun (e : Ending) (w2 : World) he => DoPost.of_went (x := x) (E := E) (wk := wk) (w := w) (w2 := w2) (e := e) (m := m) hc he)
    clear HT hc
    generalize tableP E m v = mo at *
    refine Calls.mono ?_ HP.out
    go_enter Tryd.func113, Tryd.ntmps113
    go_wp2
    go_region_law (first | ((try go_simp); go_at_call 128; refine (HTW.out _ (below_one _ _).drew).mono ?_; rintro e w3 ⟨rfl, h3⟩; have H3 := Lib.hid h3; clear h3))
    all_goals
      go_wp2
      go_end0
      exact ⟨rfl, H3.out⟩
  · have HTF := Lib.hid (fun (w1 : World) (h1 : Below w'.heap.size w' w1) => (HT.out w1 h1).mono (fun e w2 hd => hd.fell hc))
    have HP := Lib.hid (fun (e : Ending) (w2 : World) he => DoPost.of_fell (x := x) (E := E) (wk := wk) (w := w) (w2 := w2) (e := e) (m := m) hc he)
    clear HT hc
    generalize tableP E m v = mo at *
    refine Calls.mono ?_ HP.out
    go_enter Tryd.func113, Tryd.ntmps113
    go_wp2
    go_region_dies
    all_goals
      (try go_simp)
      trace_state
      go_at_call 128
      refine (HTF.out _ (below_one _ _).drew).mono ?_
      rintro e w3 ⟨rfl, h3⟩
      exact ⟨rfl, rfl, h3⟩
end
end Go.Proofs.YtopceggmdieppaaDoor.Emu
namespace Go.Proofs.YtopceggmdieppaaDoor.Emu
open Go.RowKit Go.Proofs.YtopceggmdieppaaDoor.Enc Go.Proofs.YtopceggmdieppaaDoor.Graph

section
variable {x : Fz} {E : Env} {wk : Nat → Value} {w w' w1 w2 : World} {m : M} {ad buf back : Value} {pg : Nat → Option Nat}
theorem St.kept (h : St x E wk w w1 m ad buf back pg) (hb : w1.grownBy w2 back.ownBlock) (k : Nat) {v : Value} (hc : w1.cell? ⟨x.bm, k, none⟩ = some v) (hf : w1.frozen? ⟨x.bm, k, none⟩ = false) : w2.cell? ⟨x.bm, k, none⟩ = some v ∧ w2.frozen? ⟨x.bm, k, none⟩ = false := by
  have hne : some x.bm ≠ back.ownBlock := fun e => by
    have := (h.backR.lt _ e.symm).1
    have := h.ok.bn
    omega
  unfold World.cell? at hc ⊢
  unfold World.frozen? at hf ⊢
  rw [hb.block x.bm h.lm hne]
  exact ⟨hc, hf⟩
set_option maxHeartbeats 4000000 in
set_option maxRecDepth 100000 in
theorem jump43 (h : St x E wk w w' m ad buf back pg) (h0 : m.stop = 0) (hI : Inv m) (hE : EnvOk E) (hp : 0 ≤ m.place ∧ m.place ≤ 65536) (a b imm : Int) :
    Calls Tryd.prog 113 #[.pointer (some ⟨x.bm, 0, none⟩), iV ⟨43, a, b, imm⟩] w' (DoPost x E wk w m (doStep E m ⟨43, a, b, imm⟩) False) := by
  have hmo : doStep E m ⟨43, a, b, imm⟩ = match wordAt E m.place with | none => trap m 5 | some v => if 50 ≤ m.calls.length then trap m 3 else { m with calls := m.calls ++ [m.place + 1], place := v } := by simp [doStep, plainStep, goesStep, followsP]; cases wordAt E m.place <;> rfl
  rw [hmo]
  obtain ⟨bp, bc, rfl⟩ := h.backForm
  have HH := Lib.hid h
  by_cases hlt : 0 ≤ m.place ∧ m.place < E.words.length
  · rw [wordAt_some hlt]
    simp only
    have HB := Lib.hid (fun o => behind_ok (h.alloc o) hE.len hlt)
    have hv : isW (E.words.getD m.place.toNat 0) := isW_getD hE.words _
    have HC := Lib.hid (fun (w1 : World) (h1 : St x E wk w w1 { m with place := m.place + 1 } ad buf (.slice bp m.calls.length bc) pg) => (show w1.cell? ⟨x.bm, 19, none⟩ = some (.int .i64 (m.place + 1)) ∧ w1.frozen? ⟨x.bm, 19, none⟩ = false from h1.cell (k := 19) (by decide)))
    have HD := Lib.hid (fun (w1 : World) (h1 : St x E wk w w1 { m with place := m.place + 1 } ad buf (.slice bp m.calls.length bc) pg) => (show w1.cell? ⟨x.bm, 18, none⟩ = some (.slice bp m.calls.length bc) ∧ w1.frozen? ⟨x.bm, 18, none⟩ = false from h1.cell (k := 18) (by decide)))
    obtain ⟨v0, v1⟩ := hv
    generalize E.words.getD m.place.toNat 0 = v at *
    by_cases hfull : 50 ≤ m.calls.length
    · rw [if_pos hfull]
      have HP := Lib.hid (fun (e : Ending) (w2 : World) (he : e = thrown 3 ∧ St x E wk w w2 { m with place := m.place + 1 } ad buf (.slice bp m.calls.length bc) pg) => DoPost.trap (T := False) (m := m) (m2 := { m with place := m.place + 1 }) (fun h => h) he.1 rfl rfl he.2)
      have h50 : m.calls.length = 50 := Nat.le_antisymm hI.cl hfull
      rw [h50] at HD HC HB HP
      clear h hmo hlt hI hE hp hfull h50 HH
      generalize m.place = p at *
      refine Calls.mono ?_ HP.out
      go_enter Tryd.func113, Tryd.ntmps113
      go_wp2_with (go_at_call 108; refine (HB.out _).mono ?_; rintro e w1 ⟨rfl, h1⟩; obtain ⟨c19, f19⟩ := HC.out w1 h1; obtain ⟨c18, f18⟩ := HD.out w1 h1; have hlm := h1.lm; have H1 := Lib.hid h1; clear h1)
      exact ⟨rfl, rfl, H1.out⟩
    · rw [if_neg hfull]
      have HP := Lib.hid (fun (e : Ending) (w2 : World) (he : e = .returned (.tuple #[]) ∧ ∃ back', St x E wk w w2 { m with calls := m.calls ++ [m.place + 1], place := v } ad buf back' pg) => (he.2.elim fun _ h2 => DoPost.ok (m := m) (T := False) h0 he.1 h2 rfl : DoPost x E wk w m { m with calls := m.calls ++ [m.place + 1], place := v } False e w2))
      have hn : m.calls.length ≤ 1000000 := by omega
      have hne : ¬ ((m.calls.length : Int) = 50) := by omega
      have HW := Lib.hid (fun (w1 : World) (h1 : St x E wk w w1 { m with place := m.place + 1 } ad buf (.slice bp m.calls.length bc) pg) => (show w1.ownsRow x.N 3 1 (.slice bp m.calls.length bc) m.calls.length (m.calls.map fun p => .int .i64 p) from h1.backR))
      have HPU := Lib.hid (fun (w1 w2 : World) (back' : Value) (h1 : St x E wk w w1 { m with place := m.place + 1 } ad buf (.slice bp m.calls.length bc) pg) (hb : w1.grownBy w2 (Value.slice bp m.calls.length bc).ownBlock) (hn : w2.ownsRow x.N 3 1 back' (m.calls.length + 1) ((m.calls.map fun p => .int .i64 p) ++ [.int .i64 (m.place + 1)])) (hgn : ∀ g, back'.ownBlock = some g → (Value.slice bp m.calls.length bc).ownBlock = some g ∨ w1.heap.size ≤ g) => (h1.push hb hn hgn).setPlace v)
      have HN := Lib.hid (fun (w1 : World) (h1 : St x E wk w w1 { m with place := m.place + 1 } ad buf (.slice bp m.calls.length bc) pg) => h1.size)
      have HKP := Lib.hid (fun (w1 w2 : World) (h1 : St x E wk w w1 { m with place := m.place + 1 } ad buf (.slice bp m.calls.length bc) pg) (hb : w1.grownBy w2 (Value.slice bp m.calls.length bc).ownBlock) (k : Nat) (v : Value) hc hf => h1.kept hb k (v := v) hc hf)
      obtain ⟨i0, hi, hz0, hz1, hz2⟩ := info_parts info_intE
      have HIN := Lib.hid (And.intro hi (And.intro hz0 (And.intro hz1 hz2)))
      have hn2 : m.calls.length + 1 ≤ maxLen := by unfold maxLen; omega
      have hn3 : (m.calls.length + 1) * 8 ≤ 140737488355328 := by omega
      have HNN := Lib.hid (And.intro hn2 hn3)
      have hp0 := hp.1
      have hp1 := hp.2
      clear h hmo hlt hI hE hp hfull hi hz0 hz1 hz2 hn2 hn3 HH
      generalize m.place = p at *
      generalize m.calls.length = n at *
      refine Calls.mono ?_ HP.out
      go_enter Tryd.func113, Tryd.ntmps113
      go_wp2_with (go_at_call 108; refine (HB.out _).mono ?_; rintro e w1 ⟨rfl, h1⟩; obtain ⟨c19, f19⟩ := HC.out w1 h1; obtain ⟨c18, f18⟩ := HD.out w1 h1; have hlm := h1.lm; have H1 := Lib.hid h1; have hnz := HN.out w1 h1; clear h1)
      go_region_law (first
        | (refine step_append_lies _ rfl (.tmp 54) (.tmp 59) 25 rfl x.N 3 i0 (.int .i64 0) 1 8 Tryd.underlying25 HIN.out.1 HIN.out.2.1 HIN.out.2.2.1 HIN.out.2.2.2 rfl (by omega) (.slice bp n bc) n _ rfl (HW.out _ ((H1.out.alloc _).drew)) ⟨w1.heap.size, 0, none⟩ 1 1 [.int .i64 (p + 1)] rfl rfl (one_newsE (by go_simp)) (fun y hy => by rw [List.mem_singleton.1 hy]; rfl) (by omega) HNN.out.1 HNN.out.2 (by simp; omega) _ rfl ?_
           intro g cap w3 h2 h3 h4 h5
           have hkc := HKP.out _ _ ((H1.out.alloc _).drew) h3
           obtain ⟨d18, e18⟩ := hkc 18 (.slice bp n bc) (by go_simp) (by go_simp)
           obtain ⟨d19, e19⟩ := hkc 19 (.int .i64 (p + 1)) (by go_simp) (by go_simp)
           have HG := Lib.hid (HPU.out _ _ _ ((H1.out.alloc _).drew) h3 h2 (fun g' e => by
             have e : some g = some g' := e
             injection e with e
             subst e
             rcases h4 with h4 | h4
             · exact .inl h4
             · right; rw [h4]; simp))
           clear h2 h3 h4 h5 hkc))
      all_goals
        go_wp2
        go_end0
        exact ⟨rfl, _, HG.out⟩
  · rw [wordAt_none hlt]
    have HB := Lib.hid (fun o => behind_no (h.alloc o) hE.len ⟨by omega, by omega⟩ hlt)
    have HP := Lib.hid (fun (e : Ending) (w2 : World) (he : e = thrown 5 ∧ St x E wk w w2 m ad buf (.slice bp m.calls.length bc) pg) => DoPost.trap (T := False) (m := m) (m2 := m) (fun h => h) he.1 rfl rfl he.2)
    clear h hmo hlt
    refine Calls.mono ?_ HP.out
    go_enter Tryd.func113, Tryd.ntmps113
    go_wp2_with (go_at_call 108; refine (HB.out _).mono ?_; rintro e w1 ⟨rfl, hw2⟩; have hw3 := hw2.symm; clear hw2; subst hw3)
    exact ⟨rfl, rfl, HH.out.alloc _⟩
end
end Go.Proofs.YtopceggmdieppaaDoor.Emu
namespace Go.Proofs.YtopceggmdieppaaDoor.Emu
open Go.RowKit Go.Proofs.YtopceggmdieppaaDoor.Enc Go.Proofs.YtopceggmdieppaaDoor.Graph

theorem lt_of_cellE {w : World} {g k : Nat} {v : Value} (h : w.cell? ⟨g, k, none⟩ = some v) : g < w.heap.size := World.block_lt_of_cell? w _ h
section
variable {x : Fz} {E : Env} {wk : Nat → Value} {w w' w1 w2 : World} {m : M} {ad buf back : Value} {pg : Nat → Option Nat}
set_option maxHeartbeats 4000000 in
set_option maxRecDepth 100000 in
theorem jump44 (h : St x E wk w w' m ad buf back pg) (h0 : m.stop = 0) (hI : Inv m) (a b imm : Int) :
    Calls Tryd.prog 113 #[.pointer (some ⟨x.bm, 0, none⟩), iV ⟨44, a, b, imm⟩] w' (DoPost x E wk w m (doStep E m ⟨44, a, b, imm⟩) False) := by
  have hmo : doStep E m ⟨44, a, b, imm⟩ = match m.calls.getLast? with | none => trap m 8 | some p => { m with place := p, calls := m.calls.dropLast } := by simp [doStep, plainStep, goesStep, followsP]; cases m.calls.getLast? <;> rfl
  rw [hmo]
  have HH := Lib.hid h
  obtain ⟨c18, f18⟩ := h.cell (k := 18) (by decide)
  change _ = some back at c18
  obtain ⟨c19, f19⟩ := h.cell (k := 19) (by decide)
  change _ = some (Value.int .i64 m.place) at c19
  have hlm := h.lm
  rcases List.eq_nil_or_concat m.calls with hm | ⟨l, p, hm⟩
  · rw [hm]
    obtain ⟨bp, bc, rfl⟩ := h.backForm
    have hn : m.calls.length = 0 := by rw [hm]; rfl
    rw [hn] at c18
    have HP := Lib.hid (fun (e : Ending) (w2 : World) (he : e = thrown 8 ∧ St x E wk w w2 m ad buf (.slice bp m.calls.length bc) pg) => DoPost.trap (T := False) (m := m) (m2 := m) (fun h => h) he.1 rfl rfl he.2)
    clear h hmo hn hm
    refine Calls.mono ?_ HP.out
    go_enter Tryd.func113, Tryd.ntmps113
    go_wp2
    exact ⟨rfl, rfl, HH.out.alloc _⟩
  · rw [List.concat_eq_append] at hm
    obtain ⟨g, c, hb, hc, cg, hgm, _⟩ := h.top hm
    have hl : l.length + 1 ≤ 50 := by have := hI.cl; rw [hm] at this; simpa using this
    obtain ⟨g', c', hb', _, _, _, hst⟩ := (h.setPlace p).top (l := l) (p := p) hm
    obtain ⟨rfl, rfl⟩ : g' = g ∧ c' = c := by rw [hb] at hb'; simp at hb'; exact ⟨hb'.1.symm, hb'.2.symm⟩
    have HT := Lib.hid hst
    clear hst hb'
    have e1 : m.calls.getLast? = some p := by rw [hm]; simp
    have e2 : m.calls.dropLast = l := by rw [hm]; simp
    rw [e1, e2]
    simp only
    have hg := lt_of_cellE cg
    subst hb
    have HP := Lib.hid (fun (e : Ending) (w2 : World) (he : e = .returned (.tuple #[]) ∧ ∃ c', St x E wk w w2 { m with place := p, calls := l } ad buf c' pg) => (he.2.elim fun _ h2 => DoPost.ok (m := m) (T := False) h0 he.1 h2 rfl : DoPost x E wk w m { m with place := p, calls := l } False e w2))
    clear h hmo hm e1 e2 hI h0
    generalize l.length = n at *
    generalize m.place = q at *
    refine Calls.mono ?_ HP.out
    go_enter Tryd.func113, Tryd.ntmps113
    go_wp2
    go_end0
    exact ⟨rfl, _, HT.out.alloc _⟩
theorem jump_prog (h : St x E wk w w' m ad buf back pg) (h0 : m.stop = 0) (hI : Inv m) (hE : EnvOk E) (hp : 0 ≤ m.place ∧ m.place ≤ 65536) (c : PC) (hc : Within c) (ho : 40 ≤ c.op ∧ c.op ≤ 44) :
    Calls Tryd.prog 113 #[.pointer (some ⟨x.bm, 0, none⟩), iV c] w' (DoPost x E wk w m (doStep E m c) False) := by
  obtain ⟨op, a, b, imm⟩ := c
  obtain ⟨_, ha, _, hi⟩ := hc
  simp only at ho ha hi
  obtain rfl | rfl | rfl | rfl | rfl : op = 40 ∨ op = 41 ∨ op = 42 ∨ op = 43 ∨ op = 44 := by omega
  · exact jump40 h h0 ⟨by omega, by omega⟩ a b imm hi
  · exact jump41 h h0 hE hp a b imm
  · obtain ⟨k, rfl⟩ := Int.eq_ofNat_of_zero_le ha.1
    exact jump42 h h0 hI hE hp k b imm (by omega)
  · exact jump43 h h0 hI hE hp a b imm
  · exact jump44 h h0 hI a b imm
end
end Go.Proofs.YtopceggmdieppaaDoor.Emu
namespace Go.Proofs.YtopceggmdieppaaDoor.Emu
open Go.RowKit Go.Proofs.YtopceggmdieppaaDoor.Enc Go.Proofs.YtopceggmdieppaaDoor.Graph

theorem not32 {v : Int} (h0 : 0 ≤ v) (h1 : v < 4294967296) : bits BinOp.xor IntKind.u32 IntKind.u32.max v = 4294967295 - v := by
  obtain ⟨b, rfl⟩ := Int.eq_ofNat_of_zero_le h0
  have h2 : (BitVec.ofInt 32 (b : Int)).toNat = b := by
    rw [BitVec.ofInt_natCast, BitVec.toNat_ofNat]; exact Nat.mod_eq_of_lt (by omega)
  show IntKind.u32.wrap ((BitVec.ofInt 32 4294967295 ^^^ BitVec.ofInt 32 (b : Int)).toNat : Int) = _
  rw [show BitVec.ofInt 32 4294967295 = BitVec.allOnes 32 from rfl, BitVec.allOnes_xor, BitVec.toNat_not, h2, IntKind.wrap_u32]
  omega
section
variable {x : Fz} {E : Env} {wk : Nat → Value} {w w' w1 w2 : World} {m : M} {ad buf back : Value} {pg : Nat → Option Nat}
theorem below_drewN (w : World) (n : Nat) : Below w.heap.size w (w.drewN n) := ⟨rfl, rfl, rfl, Nat.le_refl _, fun _ _ => rfl⟩
theorem St.drewN (h : St x E wk w w' m ad buf back pg) (n : Nat) : St x E wk w (w'.drewN n) m ad buf back pg := h.go (below_drewN _ _)
set_option maxHeartbeats 4000000 in
set_option maxRecDepth 100000 in
theorem do0 (h : St x E wk w w' m ad buf back pg) :
    Calls Tryd.prog 70 #[.pointer (some ⟨x.bm, 0, none⟩), iV ⟨0, 0, 0, 0⟩] w' fun e w2 => e = thrown 4 ∧ St x E wk w w2 m ad buf back pg := by
  obtain ⟨ca, fa⟩ := h.cell (k := 2) (by omega)
  change _ = some (Value.int .u32 (m.r.getD 0 0)) at ca
  have hlm := h.lm
  have HH := Lib.hid h
  clear h
  go_enter Tryd.func70, Tryd.ntmps70
  go_wp2
  go_quiet (fail)
  go_wp2
  go_quiet (fail)
  go_wp2
  exact ⟨rfl, rfl, (HH.out.alloc _).drewN _⟩
end
end Go.Proofs.YtopceggmdieppaaDoor.Emu
namespace Go.Proofs.YtopceggmdieppaaDoor.Emu
open Go.RowKit Go.Proofs.YtopceggmdieppaaDoor.Enc Go.Proofs.YtopceggmdieppaaDoor.Graph

section
variable {x : Fz} {E : Env} {wk : Nat → Value} {w w' w1 w2 : World} {m : M} {ad buf back : Value} {pg : Nat → Option Nat}
set_option maxHeartbeats 4000000 in
set_option maxRecDepth 100000 in
theorem trapOf_prog (n : Int) (w : World) : Calls Tryd.prog 69 #[.iface 142 (.int .u32 n)] w fun e w' => e = .returned (.int .u32 n) ∧ w' = w := by
  have hta : ∀ w : World, (Instr.typeAssert (.iface 142 (.int .u32 n)) 20 142 true).run Tryd.prog w = .ok (.tuple #[.int .u32 n, .bool true]) w := fun _ => by kernel_rfl
  go_enter Tryd.func69, Tryd.ntmps69
  go_wp2
  go_ret
  exact ⟨rfl, rfl⟩
set_option maxHeartbeats 4000000 in
set_option maxRecDepth 100000 in
theorem catch_panicking (h : St x E wk w w' m ad buf back pg) (pb : Nat) (hb : w'.cell? ⟨pb, 0, none⟩ = some (.pointer (some ⟨x.bm, 0, none⟩))) (n : Int) (older : List PanicEntry) :
    CallsD Tryd.prog 67 #[.pointer (some ⟨pb, 0, none⟩)] (.panicking ({ v := .iface 142 (.int .u32 n), recovered := false } :: older)) w' fun e u' w2 =>
      e = .returned (.tuple #[]) ∧ u' = .panicking ({ v := .iface 142 (.int .u32 n), recovered := true } :: older) ∧ St x E wk w w2 { m with stop := 2, code := n } ad buf back pg := by
  have HT := Lib.hid (fun w => trapOf_prog n w)
  have HA := Lib.hid (fun (W : World) (hW : St x E wk w W m ad buf back pg) => halt_prog hW 2 n)
  have HH := Lib.hid h
  clear h
  refine callsD_of_wpS Tryd.func67 rfl fun c₀ cs hu => ?_
  apply wpS_seq
  apply wpS_region
  simp [wpOpsS, go_sem, recoverD, hu, Tryd.ntmps67, Exit.thenS]
  refine wpS_of_wp ?_
  go_wp2
  change Code.wp _ _ _ { tmps := #[.pointer (some ⟨pb, 0, none⟩), .iface 142 (.int .u32 n), .iface 142 (.int .u32 n), .iface 142 (.int .u32 n), .bool true, undef, undef, undef, undef], defers := [] } _
  go_region_law (first
    | ((try go_simp); go_at_call 69; refine (HT.out _).mono ?_; rintro e w3 ⟨rfl, hw2⟩; have hw3 := hw2.symm; clear hw2; subst hw3)
    | ((try go_simp); go_at_call 68; refine (HA.out _ (by repeat' first | exact HH.out | apply St.alloc | apply St.drewN | apply St.drew)).mono ?_; rintro e w3 ⟨rfl, h3⟩; have H3 := Lib.hid h3; clear h3))
  all_goals exact ⟨rfl, _, rfl, _, results_none rfl _ _ _, rfl, rfl, H3.out⟩
end
end Go.Proofs.YtopceggmdieppaaDoor.Emu
