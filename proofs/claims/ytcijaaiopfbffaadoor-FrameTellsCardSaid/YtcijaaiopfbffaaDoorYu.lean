/- What instructions and ends use and set, by the document. No condition. -/
import Derived.Test.YtcijaaiopfbffaaDoorYf
namespace Go.Proofs.YtcijaaiopfbffaaDoor.Graph
open Go.RowKit

set_option maxHeartbeats 4000000 in
set_option maxRecDepth 100000 in
theorem kind_any (op : Int) (w : World) : Calls Tryd.prog 60 #[.int .i64 op] w fun e w' => e = .returned (.int .i64 (kindI op)) ∧ w' = w := by
  go_enter Tryd.func60, Tryd.ntmps60
  go_wp2
  all_goals (go_ret; refine ⟨?_, rfl⟩)
  all_goals refine congrArg (fun x => Ending.returned (Value.int IntKind.i64 x)) ?_
  all_goals (simp only [beq_iff_eq, beq_eq_false_iff_ne, ne_eq] at *; unfold kindI; (repeat' split) <;> omega)
theorem kind_range (op : Int) : kindI op = 0 ∨ kindI op = 1 ∨ kindI op = 2 ∨ kindI op = 3 ∨ kindI op = 4 ∨ kindI op = 5 ∨ kindI op = 6 ∨ kindI op = 7 ∨ kindI op = 8 ∨ kindI op = 9 ∨ kindI op = 10 := by
  have h : 0 ≤ kindI op ∧ kindI op ≤ 10 := by
    unfold kindI
    (repeat' split) <;> omega
  omega
/-- The temp that an instruction sets. -/
def setsI (x : PIns) : Int := if kindI x.op = 0 ∨ kindI x.op = 5 ∨ kindI x.op = 7 ∨ kindI x.op = 10 then -1 else x.d
set_option maxHeartbeats 2000000 in
set_option maxRecDepth 100000 in
theorem sets_any (x : PIns) (va vr : Value) (w : World) (h : InsL w va vr x) :
    Calls Tryd.prog 36 #[insV x va vr] w (Is (.int .i64 (setsI x)) w) := by
  obtain ⟨ap, ac, rfl⟩ := h.args.form
  obtain ⟨rp, rc, rfl⟩ := h.arrs.form
  have hS : setsI x = if kindI x.op = 0 ∨ kindI x.op = 5 ∨ kindI x.op = 7 ∨ kindI x.op = 10 then -1 else x.d := rfl
  have HK := Lib.hid (fun w => kind_any x.op w)
  obtain ⟨k, hk⟩ : ∃ k, k = kindI x.op := ⟨_, rfl⟩
  rw [← hk] at HK hS
  have HS := Lib.hid hS
  unfold insV
  clear h hk hS
  go_enter Tryd.func36, Tryd.ntmps36
  go_wp2_with (go_at_call 60; refine (HK.out _).mono ?_; rintro e w2 ⟨rfl, h2⟩; subst h2)
  all_goals (go_ret; refine ⟨?_, below_alloc w _⟩)
  all_goals rw [HS.out]
  all_goals refine congrArg (fun x => Ending.returned (Value.int IntKind.i64 x)) ?_
  all_goals (simp only [beq_iff_eq, beq_eq_false_iff_ne, ne_eq] at *; split <;> first | rfl | omega)
def RetI (l : List Int) (w : World) (e : Ending) (w' : World) : Prop := ∃ p n c, e = .returned (.slice p n c) ∧ IntsR w' (.slice p n c) l ∧ Below w.heap.size w w'
theorem ints_nil (w : World) : IntsR w (.slice none 0 0) [] := .inl ⟨rfl, none, 0, rfl⟩
theorem lt_blk {w : World} {g : Nat} {o : Obj} (hg : w.heap[g]? = some o) : g < w.heap.size := by
  rcases Nat.lt_or_ge g w.heap.size with h | h
  · exact h
  · rw [Array.getElem?_eq_none h] at hg; cases hg
theorem ints_one {w : World} {b : Nat} {a : Int} {t : TypeId} (h : w.heap[b]? = some (.cells #[.int .i64 a] t (0, 0))) : IntsR w (.slice (some ⟨b, 0, none⟩) 1 1) [a] :=
  .inr ⟨b, 0, 1, rfl, by simp, by simp, lt_blk h, fun i hi x hx => by
    match i, hx with
    | 0, hx => injection hx with hx; subst hx; simp [World.cell?, h]⟩
theorem ints_two {w : World} {b : Nat} {a c : Int} {t : TypeId} (h : w.heap[b]? = some (.cells #[.int .i64 a, .int .i64 c] t (0, 0))) : IntsR w (.slice (some ⟨b, 0, none⟩) 2 2) [a, c] :=
  .inr ⟨b, 0, 2, rfl, by simp, by simp, lt_blk h, fun i hi x hx => by
    match i, hx with
    | 0, hx => injection hx with hx; subst hx; simp [World.cell?, h]
    | 1, hx => injection hx with hx; subst hx; simp [World.cell?, h]⟩
theorem new_at (w : World) (a b : Obj) : ((w.alloc a).alloc b).heap[w.heap.size + 1]? = some b := by
  have h : ((w.alloc a).alloc b).heap[(w.alloc a).heap.size]? = some b := by unfold World.alloc; exact Array.getElem?_push_size
  rw [World.size_alloc] at h
  exact h
def usesL (x : PIns) : List Int := if kindI x.op = 2 ∨ kindI x.op = 5 ∨ kindI x.op = 6 ∨ kindI x.op = 10 then [x.a] else if kindI x.op = 3 ∨ kindI x.op = 7 then [x.a, x.b] else []
set_option maxHeartbeats 2000000 in
set_option maxRecDepth 100000 in
theorem uses_any (x : PIns) (va vr : Value) (w : World) (h : InsL w va vr x) (h8 : kindI x.op ≠ 8) :
    Calls Tryd.prog 35 #[insV x va vr] w (RetI (usesL x) w) := by
  obtain ⟨ap, ac, rfl⟩ := h.args.form
  obtain ⟨rp, rc, rfl⟩ := h.arrs.form
  have hr := kind_range x.op
  unfold insV
  clear h
  rcases hr with hk | hk | hk | hk | hk | hk | hk | hk | hk | hk | hk
  all_goals first
    | exact absurd hk h8
    | (have HK : Hid (∀ w, Calls Tryd.prog 60 #[.int .i64 x.op] w fun e w' => e = .returned (.int .i64 (kindI x.op)) ∧ w' = w) := Lib.hid (fun w => kind_any x.op w)
       rw [hk] at HK
       have HKK := Lib.hid hk
       clear hk h8
       go_enter Tryd.func35, Tryd.ntmps35
       go_wp2_with (go_at_call 60; refine (HK.out _).mono ?_; rintro e w2 ⟨rfl, h2⟩; subst h2)
       go_ret
       first
         | exact ⟨_, _, _, rfl, by rw [show usesL x = [] from by simp [usesL, HKK.out]]; exact ints_nil _, below_alloc w _⟩
         | exact ⟨_, _, _, rfl, by rw [show usesL x = [x.a] from by simp [usesL, HKK.out]]; exact ints_one (new_at w _ _), below2 w _ _⟩
         | exact ⟨_, _, _, rfl, by rw [show usesL x = [x.a, x.b] from by simp [usesL, HKK.out]]; exact ints_two (new_at w _ _), below2 w _ _⟩)
def endUsesL (e : PEnd) : List Int := if e.kind = 2 then [e.a, e.b] else if e.kind = 3 ∨ e.kind = 4 then [e.a] else if e.kind = 5 ∧ e.a ≠ -1 then [e.a] else []
set_option maxHeartbeats 2000000 in
set_option maxRecDepth 100000 in
theorem endUses_any (e : PEnd) (cp tp : Option Addr) (cn cc tn tc : Nat) (w : World) :
    Calls Tryd.prog 37 #[.agg #[.int .i64 e.kind, .int .i64 e.op, .int .i64 e.a, .int .i64 e.b, .int .u32 e.n, .int .i64 e.to, .int .i64 e.els, .slice cp cn cc, .slice tp tn tc]] w (RetI (endUsesL e) w) := by
  by_cases h2 : e.kind = 2
  · have hu : Hid (endUsesL e = [e.a, e.b]) := Lib.hid (by simp [endUsesL, h2])
    have e2 : (e.kind == 2) = true := by simpa using h2
    clear h2
    go_enter Tryd.func37, Tryd.ntmps37
    go_wp2
    go_ret
    exact ⟨_, _, _, rfl, by rw [hu.out]; exact ints_two (new_at w _ _), below2 w _ _⟩
  · have e2 : (e.kind == 2) = false := by simpa using h2
    by_cases h3 : e.kind = 3 ∨ e.kind = 4
    · have hu : Hid (endUsesL e = [e.a]) := Lib.hid (by simp only [endUsesL, if_neg h2, if_pos h3])
      rcases h3 with h3 | h3
      · have e3 : (e.kind == 3) = true := by simpa using h3
        clear h2 h3
        go_enter Tryd.func37, Tryd.ntmps37
        go_wp2
        go_ret
        exact ⟨_, _, _, rfl, by rw [hu.out]; exact ints_one (new_at w _ _), below2 w _ _⟩
      · have e3 : (e.kind == 3) = false := by simp; omega
        have e4 : (e.kind == 4) = true := by simpa using h3
        clear h2 h3
        go_enter Tryd.func37, Tryd.ntmps37
        go_wp2
        go_ret
        exact ⟨_, _, _, rfl, by rw [hu.out]; exact ints_one (new_at w _ _), below2 w _ _⟩
    · have e3 : (e.kind == 3) = false := by simp; omega
      have e4 : (e.kind == 4) = false := by simp; omega
      by_cases h5 : e.kind = 5
      · have e5 : (e.kind == 5) = true := by simpa using h5
        by_cases ha : e.a = -1
        · have hu : Hid (endUsesL e = []) := Lib.hid (by simp only [endUsesL, h5, ha]; simp)
          have e6 : (e.a == -1) = true := by simpa using ha
          have e7 : (e.a != -1) = false := by simpa using ha
          clear h2 h3 h5 ha
          go_enter Tryd.func37, Tryd.ntmps37
          go_wp2
          go_ret
          exact ⟨_, _, _, rfl, by rw [hu.out]; exact ints_nil _, below_alloc w _⟩
        · have hu : Hid (endUsesL e = [e.a]) := Lib.hid (by simp only [endUsesL, if_neg h2, if_neg h3]; rw [if_pos ⟨h5, ha⟩])
          have e6 : (e.a == -1) = false := by simpa using ha
          have e7 : (e.a != -1) = true := by simpa using ha
          clear h2 h3 h5 ha
          go_enter Tryd.func37, Tryd.ntmps37
          go_wp2
          go_ret
          exact ⟨_, _, _, rfl, by rw [hu.out]; exact ints_one (new_at w _ _), below2 w _ _⟩
      · have e5 : (e.kind == 5) = false := by simpa using h5
        have hu : Hid (endUsesL e = []) := Lib.hid (by simp only [endUsesL, if_neg h2, if_neg h3]; rw [if_neg (fun h => h5 h.1)])
        clear h2 h3 h5
        go_enter Tryd.func37, Tryd.ntmps37
        go_wp2
        go_ret
        exact ⟨_, _, _, rfl, by rw [hu.out]; exact ints_nil _, below_alloc w _⟩
end Go.Proofs.YtcijaaiopfbffaaDoor.Graph
