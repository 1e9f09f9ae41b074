/- A region that draws its order, whose own operations only read, and whose callees turn nothing that was there (they may make memory): one walk in the order of the text serves for every order. No condition. -/
import Derived.BigQuiet
import Derived.Below
import Derived.KernelRfl
import Derived.Test.YthojmbljlehpbaaGreatDoorG25
namespace Go.Proofs.YthojmbljlehpbaaGreatDoor
open Go.RowKit

/-- A world in which all that was there is as it was. -/
structure Grow (w : World) where
  out : World
  below : Below w.heap.size w out
instance grow_some (w : World) : Nonempty (Grow w) := ⟨⟨w, Below.refl _ _⟩⟩
theorem grow_cell (w : World) : ∀ (g : Grow w) (b o : Nat), b < w.heap.size → g.out.cell? ⟨b, o, none⟩ = w.cell? ⟨b, o, none⟩ := fun g b o h => g.below.cell (p := ⟨b, o, none⟩) h
theorem wp_region_grow {P : Program} {id : Nat} {Q : Exit → Act → World → Prop} {a : Act} {w : World} {l : List Oper} (hm : P.follows .mixedOrders = true) (hB : Region.lexB .any l.toArray = true)
    (h : wpQuiet P l.toArray (fun w' => ∃ g : Grow w, w' = g.out) (fun a' => ∀ w', (∃ g : Grow w, w' = g.out) → Q .normal a' w') l a) : (Code.region id l.toArray true).wp P Q a w :=
  wp_region_quiet (C := fun w' => ∃ g : Grow w, w' = g.out) hm hB ⟨⟨w.drew, (Below.refl _ _).drew⟩, rfl⟩ (by simpa using h)
/-- A callee's contract, met in such a world. -/
theorem Grow.call {P : Program} {f : FuncId} {args : Array Value} {w : World} (g : Grow w) {v : Value}
    (h : Calls P f args g.out fun e w' => e = .returned v ∧ Below g.out.heap.size g.out w') : Calls P f args g.out fun e w' => e = .returned v ∧ ∃ g' : Grow w, w' = g'.out :=
  h.mono fun _ w' ⟨he, hb⟩ => ⟨he, ⟨w', g.below.trans (hb.mono g.below.size)⟩, rfl⟩
theorem Grow.call_same {P : Program} {f : FuncId} {args : Array Value} {w : World} (g : Grow w) {v : Value}
    (h : Calls P f args g.out fun e w' => e = .returned v ∧ w' = g.out) : Calls P f args g.out fun e w' => e = .returned v ∧ ∃ g' : Grow w, w' = g'.out :=
  h.mono fun _ _w' ⟨he, hb⟩ => ⟨he, g, hb⟩
end Go.Proofs.YthojmbljlehpbaaGreatDoor
namespace Go.Proofs.YthojmbljlehpbaaGreatDoor.Lists
open Go.RowKit Go.Proofs.YthojmbljlehpbaaGreatDoor.Relax Go.Proofs.YthojmbljlehpbaaGreatDoor.Graph
open Go.Lib hiding intOf
open Go.Proofs.YthojmbljlehpbaaGreatDoor.Enc hiding below_one bt ret_bool

theorem below_drewNL (w : World) : ∀ n, Below w.heap.size w (w.drewN n)
  | 0 => Below.refl _ _
  | n + 1 => (below_drewNL w n).drew
theorem guard_nil (px py : Operand) (w : World) : (eqGuard .neq 20 px py .nilIface .nilIface).run Tryz.prog w = .ok () w := by
  have h : ∀ d, (Op.eqGuardIn (d + 1) 20 .nilIface .nilIface).run Tryz.prog w = .ok false w := fun d => by
    simp [Op.eqGuardIn, run_underlying Tryz.underlying20]
  simp only [eqGuard]
  simp [Op.maxDepth, h 9999]
theorem wd_guard (x y : Option Wd) (px py : Operand) (w : World) : (eqGuard .neq 20 px py (wdV x) (wdV y)).run Tryz.prog w = .ok () w := by
  rcases x with _ | (a | a | a | a | a) <;> rcases y with _ | (b | b | b | b | b) <;> unfold wdV
  case none.none => exact guard_nil px py w
  all_goals simp [eqGuard]
theorem quiet_neq {K : Act → Prop} {o : Oper} {a : Act} {C : World → Prop} (x y : Operand) (t t' : TypeId) (ho : o.op = .binOp .neq t x y t') (vx vy : Value) (hx : a.eval x = vx) (hy : a.eval y = vy) (r : Bool)
    (hgd : ∀ W : World, (eqGuard .neq t x y vx vy).run Tryz.prog W = .ok () W) (hrun : ∀ W : World, (binOp .neq t vx vy).run Tryz.prog W = .ok (.bool r) W) (hk : K (a.put o.dst (.bool r))) : o.quiet Tryz.prog a C K :=
  ⟨.bool r, fun w _ => by
    unfold Oper.quietAt execOp
    rw [ho]
    simp [hx, hy, hrun, hgd, Oper.quietUpon, Result.andThen], hk⟩
set_option maxHeartbeats 8000000 in
set_option maxRecDepth 100000 in
theorem equal_any (p1 p2 : Option Addr) (c1 c2 : Nat) (l1 l2 : List (Option Wd)) (w : World) (h1 : WdsR w (.slice p1 l1.length c1) l1) (h2 : WdsR w (.slice p2 l2.length c2) l2) (hn1 : l1.length ≤ 1000000) (hn2 : l2.length ≤ 1000000) :
    Calls Tryz.prog 139 #[.slice p1 l1.length c1, .slice p2 l2.length c2] w fun e w' => e = .returned (.bool (decide (l1 = l2))) ∧ Below w.heap.size w w' := by
  have H1 := Lib.hid h1
  have H2 := Lib.hid h2
  obtain ⟨n, hn⟩ : ∃ n, n = l1.length := ⟨_, rfl⟩
  obtain ⟨m, hm⟩ : ∃ m, m = l2.length := ⟨_, rfl⟩
  have HN := Lib.hid hn
  have HM := Lib.hid hm
  rw [← hn] at hn1 ⊢
  rw [← hm] at hn2 ⊢
  have n9 : (n : Int) ≤ 1000000 := by omega
  have m9 : (m : Int) ≤ 1000000 := by omega
  have n0 : (0 : Int) ≤ n := by omega
  clear h1 h2 hn hm hn1 hn2
  by_cases hnm : n = m
  · subst hnm
    go_enter Tryz.func139, Tryz.ntmps139
    go_wp2
    go_loopw [13] (fun i wr => ∃ k : Nat, k ≤ n ∧ i = .int .i64 k ∧ Hid (Below w.heap.size w wr) ∧ Hid (∀ j, j < k → l1[j]? = l2[j]?)) (fun i _ => n - (intOf i).toNat)
    case atStart => exact ⟨0, Nat.zero_le _, rfl, Lib.hid (Below.refl _ _), Lib.hid (fun j hj => absurd hj (Nat.not_lt_zero _))⟩
    case round =>
      obtain ⟨k, hk, rfl, HB, HA⟩ := hrel
      have k0 : (0 : Int) ≤ k := by omega
      by_cases hkn : k < n
      · obtain ⟨b1, o1, x, rfl, hx, hb1, hc1, hq1, hr1⟩ := wds_pt (show WdsR wr (.slice p1 l1.length c1) l1 from H1.out.below HB.out) (k := k) (by have := HN.out; omega)
        obtain ⟨b2, o2, y, rfl, hy, hb2, hc2, hq2, hr2⟩ := wds_pt (show WdsR wr (.slice p2 l2.length c2) l2 from H2.out.below HB.out) (k := k) (by have := HM.out; omega)
        have k1 : (k : Int) < n := by omega
        have j1 : (n : Int) ≤ c1 := by have := HN.out; omega
        have j2 : (n : Int) ≤ c2 := by have := HM.out; omega
        have j3 : (c1 : Int) ≤ 9223372036854775807 := by omega
        have j4 : (c2 : Int) ≤ 9223372036854775807 := by omega
        have hne := fun (W : World) => wd_neq x y W
        have hgd := fun (px py : Operand) (W : World) => wd_guard x y px py W
        have HX := Lib.hid hx
        have HY := Lib.hid hy
        have HKN := Lib.hid hkn
        obtain ⟨r, hr⟩ : ∃ r, r = decide (x ≠ y) := ⟨_, rfl⟩
        rw [← hr] at hne
        have HR := Lib.hid hr
        generalize wdV x = vx at hc1 hne hgd
        generalize wdV y = vy at hc2 hne hgd
        clear hx hy hq1 hr1 hq2 hr2 hr hkn hk
        rcases (show r = true ∨ r = false by cases r <;> simp) with rfl | rfl
        · have HNE : Hid (decide (l1 = l2) = false) := Lib.hid (decide_eq_false (fun e => by
            have h1 := HX.out
            rw [e, HY.out] at h1
            injection h1 with h1
            have h2 := HR.out
            rw [h1] at h2
            simp at h2))
          go_upto_region 6 with (fail)
          refine wp_region_grow (by kernel_rfl) (by kernel_rfl) ?_
          have hgr := grow_cell wr
          iterate 8 (go_big_quiet_step (fail))
          refine BigFrame.wpQuiet_want (by kernel_rfl) (fun K hK => quiet_neq _ _ _ _ rfl _ _ rfl rfl true (hgd _ _) hne (hK _ ?_))
          refine wpQuiet_nil ?_
          rintro _ ⟨⟨w7, hb7⟩, rfl⟩
          clear hgr hc1 hc2 hb1 hb2
          go_wp2
          go_ret
          refine ⟨?_, bt HB.out hb7⟩
          rw [HNE.out]
          rfl
        · go_upto_region 6 with (fail)
          refine wp_region_grow (by kernel_rfl) (by kernel_rfl) ?_
          have hgr := grow_cell wr
          iterate 8 (go_big_quiet_step (fail))
          refine BigFrame.wpQuiet_want (by kernel_rfl) (fun K hK => quiet_neq _ _ _ _ rfl _ _ rfl rfl false (hgd _ _) hne (hK _ ?_))
          refine wpQuiet_nil ?_
          rintro _ ⟨⟨w7, hb7⟩, rfl⟩
          clear hgr hc1 hc2 hb1 hb2
          go_wp2
          exact ⟨⟨k + 1, HKN.out, by go_num, Lib.hid (bt HB.out hb7), Lib.hid (fun j hj => by
            by_cases e : j = k
            · subst e
              have h2 := HR.out
              have h3 : x = y := by simpa using h2
              rw [HX.out, HY.out, h3]
            · exact HA.out j (by omega))⟩, by have := HKN.out; simp [intOf]; omega⟩
      · obtain rfl : n = k := by omega
        have HEQ : Hid (decide (l1 = l2) = true) := Lib.hid (decide_eq_true (List.ext_getElem? fun j => by
          rcases Nat.lt_or_ge j n with h | h
          · exact HA.out j h
          · rw [List.getElem?_eq_none (by have := HN.out; omega), List.getElem?_eq_none (by have := HM.out; omega)]))
        go_wp2
        go_ret
        refine ⟨?_, HB.out⟩
        rw [HEQ.out]
        rfl
  · have HNE : Hid (decide (l1 = l2) = false) := Lib.hid (decide_eq_false (fun e => hnm (by rw [HN.out, HM.out, e])))
    have e1 : ((n : Int) != m) = true := by simp; omega
    have e2 : ((n : Int) == m) = false := by simp; omega
    have e3 : ¬ ((n : Int) = m) := by omega
    clear hnm
    go_enter Tryz.func139, Tryz.ntmps139
    go_wp2
    go_ret
    refine ⟨?_, Below.refl _ _⟩
    rw [HNE.out]
    rfl
end Go.Proofs.YthojmbljlehpbaaGreatDoor.Lists
namespace Go.Proofs.YthojmbljlehpbaaGreatDoor.Lists
open Go.RowKit Go.Proofs.YthojmbljlehpbaaGreatDoor.Relax Go.Proofs.YthojmbljlehpbaaGreatDoor.Graph
open Go.Lib hiding intOf
open Go.Proofs.YthojmbljlehpbaaGreatDoor.Enc hiding below_one bt ret_bool

/-- All but one box is as it was; what the box holds. -/
structure St7 (w3 : World) (rb : Nat) (cs : Array Value) (W : World) : Prop where
  g : w3.grownBy W (some rb)
  b : W.heap[rb]? = some (.cells cs 52 (0, 0))
section
variable {w3 W W' : World} {rb : Nat} {cs : Array Value}
theorem St7.refl (h : w3.heap[rb]? = some (.cells cs 52 (0, 0))) : St7 w3 rb cs w3 := ⟨⟨rfl, rfl, rfl, Nat.le_refl _, fun _ _ _ => rfl⟩, h⟩
theorem St7.drew (h : St7 w3 rb cs W) : St7 w3 rb cs (World.drew W) := ⟨⟨h.g.os, h.g.tape, h.g.output, h.g.size, h.g.block⟩, h.b⟩
theorem St7.below (h : St7 w3 rb cs W) (hb : Below W.heap.size W W') : St7 w3 rb cs W' :=
  ⟨⟨hb.os.trans h.g.os, hb.tape.trans h.g.tape, hb.output.trans h.g.output, Nat.le_trans h.g.size hb.size, fun k hk hne => (hb.block k (Nat.lt_of_lt_of_le hk h.g.size)).trans (h.g.block k hk hne)⟩, (hb.block rb (Array.getElem?_eq_some_iff.1 h.b).1).trans h.b⟩
theorem St7.set (h : St7 w3 rb cs W) (k : Nat) (v : Value) : St7 w3 rb (cs.setIfInBounds k v) (W.setCell ⟨rb, k, none⟩ v) :=
  ⟨⟨h.g.os, h.g.tape, h.g.output, by rw [World.size_setCell]; exact h.g.size, fun q hq hne => (set_otherL (fun e => hne (by rw [e]))).trans (h.g.block q hq hne)⟩, heap_setCell_same W rb k _ _ _ h.b⟩
theorem St7.store7 {a b c d e f g : Value} (h : St7 w3 rb #[a, b, c, d, e, f, g] W) (v0 v1 v2 v3 v4 v5 v6 : Value) : St7 w3 rb #[v0, v1, v2, v3, v4, v5, v6] (((((((W.setCell ⟨rb, 0, none⟩ v0).setCell ⟨rb, 1, none⟩ v1).setCell ⟨rb, 2, none⟩ v2).setCell ⟨rb, 3, none⟩ v3).setCell ⟨rb, 4, none⟩ v4).setCell ⟨rb, 5, none⟩ v5).setCell ⟨rb, 6, none⟩ v6) := by
  have h0 := h.set 0 v0
  rw [show (#[a, b, c, d, e, f, g] : Array Value).setIfInBounds 0 v0 = #[v0, b, c, d, e, f, g] from rfl] at h0
  have h1 := h0.set 1 v1
  rw [show (#[v0, b, c, d, e, f, g] : Array Value).setIfInBounds 1 v1 = #[v0, v1, c, d, e, f, g] from rfl] at h1
  have h2 := h1.set 2 v2
  rw [show (#[v0, v1, c, d, e, f, g] : Array Value).setIfInBounds 2 v2 = #[v0, v1, v2, d, e, f, g] from rfl] at h2
  have h3 := h2.set 3 v3
  rw [show (#[v0, v1, v2, d, e, f, g] : Array Value).setIfInBounds 3 v3 = #[v0, v1, v2, v3, e, f, g] from rfl] at h3
  have h4 := h3.set 4 v4
  rw [show (#[v0, v1, v2, v3, e, f, g] : Array Value).setIfInBounds 4 v4 = #[v0, v1, v2, v3, v4, f, g] from rfl] at h4
  have h5 := h4.set 5 v5
  rw [show (#[v0, v1, v2, v3, v4, f, g] : Array Value).setIfInBounds 5 v5 = #[v0, v1, v2, v3, v4, v5, g] from rfl] at h5
  have h6 := h5.set 6 v6
  rw [show (#[v0, v1, v2, v3, v4, v5, g] : Array Value).setIfInBounds 6 v6 = #[v0, v1, v2, v3, v4, v5, v6] from rfl] at h6
  exact h6
theorem St7.cells (h : St7 w3 rb cs W) {k : Nat} {v : Value} (hk : cs[k]? = some v) : W.cell? ⟨rb, k, none⟩ = some v := cell_of_block h.b hk
theorem St7.free (h : St7 w3 rb cs W) (k : Nat) : W.frozen? ⟨rb, k, none⟩ = false := by simp [World.frozen?, h.b]
theorem St7.lt (h : St7 w3 rb cs W) : rb < W.heap.size := (Array.getElem?_eq_some_iff.1 h.b).1
theorem St7.other (h : St7 w3 rb cs W) {k : Nat} (hk : k < w3.heap.size) (hne : k ≠ rb) : W.heap[k]? = w3.heap[k]? := h.g.block k hk (fun e => hne (by injection e))
theorem St7.laid (h : St7 w3 rb cs W) (hL : LaidL w3) (h8 : 8 ≤ rb) (hr : rb < w3.heap.size) : LaidL W := hL.belowB h8 ⟨h.g.os, h.g.tape, h.g.output, h.g.size, fun k hk => h.other (by omega) (by omega)⟩
theorem own_st {B n : Nat} {e : TypeId} {v : Value} {xs : List Value} (h : St7 w3 rb cs W) (ho : w3.ownsRow B e 1 v n xs) (hB : rb < B) : W.ownsRow B e 1 v n xs :=
  own_keep ho (fun q hq => h.other (ho.lt q hq).2 (by have := (ho.lt q hq).1; omega))
theorem own_set {B n k : Nat} {e : TypeId} {v u : Value} {xs : List Value} (ho : W.ownsRow B e 1 v n xs) (hB : rb < B) : (W.setCell ⟨rb, k, none⟩ u).ownsRow B e 1 v n xs :=
  own_keep ho (fun q hq => set_otherL (by have := (ho.lt q hq).1; omega))
theorem wds_st {w : World} {v : Value} {l : List (Option Wd)} (h : St7 w3 rb cs W) (hw : WdsR w v l) (hb : Below w.heap.size w w3) (hr : w.heap.size ≤ rb) : WdsR W v l := by
  have h2 := hw.below hb
  rcases hw with ⟨h0, p, c, h1⟩ | ⟨b, o, c, h1, h3, h4, h5, h6⟩
  · exact .inl ⟨h0, p, c, h1⟩
  · refine .inr ⟨b, o, c, h1, h3, h4, Nat.lt_of_lt_of_le h5 (Nat.le_trans hb.size h.g.size), fun i hi x hx => ?_⟩
    rw [World.cell?_of_block (w := w) ((h.other (Nat.lt_of_lt_of_le h5 hb.size) (by omega)).trans (hb.block b h5))]
    exact h6 i hi x hx
end
theorem fold_regs : ∀ (ws : List (Option Wd)) (f : Fl), (ws.foldl putW f).regs ≤ f.regs + ws.length ∧ (ws.foldl putW f).line.list.length ≤ f.line.list.length + ws.length
  | [], f => ⟨Nat.le_refl _, Nat.le_refl _⟩
  | x :: t, f => by
    have ih := fold_regs t (putW f x)
    have h1 : (putW f x).regs ≤ f.regs + 1 ∧ (putW f x).line.list.length ≤ f.line.list.length + 1 := by
      rcases x with _ | x
      · exact ⟨Nat.le_succ _, Nat.le_succ _⟩
      · cases x with
        | name n => exact ⟨Nat.le_succ _, Nat.le_succ _⟩
        | reg n =>
          refine ⟨Nat.le_refl _, ?_⟩
          show (if f.regs = 0 then _ else if f.regs = 1 then _ else if f.regs = 2 then _ else f.line : PL).list.length ≤ _
          (repeat' split) <;> exact Nat.le_succ _
        | lab n =>
          show (if f.line.op = 42 then _ else _ : Fl).regs ≤ _ ∧ (if f.line.op = 42 then _ else _ : Fl).line.list.length ≤ _
          split
          · exact ⟨Nat.le_succ _, by simp⟩
          · exact ⟨Nat.le_succ _, Nat.le_succ _⟩
        | mark n => exact ⟨Nat.le_succ _, Nat.le_succ _⟩
        | num n =>
          show (if f.line.op = 2 then _ else _ : Fl).regs ≤ _ ∧ (if f.line.op = 2 then _ else _ : Fl).line.list.length ≤ _
          split <;> exact ⟨Nat.le_succ _, Nat.le_succ _⟩
    show (t.foldl putW (putW f x)).regs ≤ _ ∧ (t.foldl putW (putW f x)).line.list.length ≤ _
    simp only [List.length_cons]
    omega
end Go.Proofs.YthojmbljlehpbaaGreatDoor.Lists
