/- The blocks that an end names. -/
import Derived.Test.YtcijaaiopfbffaaDoorGz
namespace Go.Proofs.YtcijaaiopfbffaaDoor.Graph
open Go.RowKit

def namedL (e : PEnd) : List Int := if e.kind = 1 then [e.to] else if e.kind = 2 then [e.to, e.els] else if e.kind = 3 then e.to :: e.cases.map (·.to) else if e.kind = 4 then e.to :: e.targets else []
def iv (x : Int) : Value := .int .i64 x
/-- A list of numbers in memory of its own. -/
def OwnL (w : World) (l : List Int) (e : Ending) (w' : World) : Prop := ∃ v, e = .returned v ∧ w'.ownsRow w.heap.size 3 1 v l.length (l.map iv) ∧ Below w.heap.size w w'
theorem own_new (w : World) (B H : Nat) (l : List Int) (hB : B ≤ w.heap.size) (hH : w.heap.size = H) (h : l.length ≤ maxLen) : (w.alloc (.cells (l.map iv).toArray 3)).ownsRow B 3 1 (.slice (some ⟨H, 0, none⟩) l.length l.length) l.length (l.map iv) := by
  subst hH
  refine ⟨by simp, .inr ⟨w.heap.size, l.length, (l.map iv).toArray, rfl, hB, heap_new w _, Nat.le_refl _, h, by simp, by
    show (l.map iv).take (l.length * 1) = l.map iv
    rw [Nat.mul_one, ← List.length_map (f := iv), List.take_length]⟩⟩
theorem news_one {w : World} {x : Int} {H : Nat} (hH : w.heap.size = H) : ∀ j u, [iv x][j]? = some u → (w.alloc (.cells #[iv x] 3)).cell? ((⟨H, 0, none⟩ : Addr).add j) = some u := by
  subst hH
  intro j u hj
  have hj0 : j = 0 := by
    rcases Nat.eq_zero_or_pos j with h | h
    · exact h
    · rw [List.getElem?_eq_none (by simp; omega)] at hj; cases hj
  subst hj0
  injection hj with hj
  subst hj
  exact (cell_of_block (heap_new w _) (k := 0) rfl).1
theorem map_take {l : List PCase} {k : Nat} {t : PCase} (ht : l[k]? = some t) (x : Int) : (x :: (l.take (k + 1)).map (·.to)).map iv = (x :: (l.take k).map (·.to)).map iv ++ [iv t.to] := by
  rw [List.take_add_one, ht]
  simp
theorem run_append_zero {P : Program} (w : World) (t e ty : TypeId) (size : Nat) (hu : P.underlying t = some (.slice e)) (hs : (P.info? e).map (·.size) = some size) (a : Addr) (n cap c : Nat) (p : Option Addr) (hle : n ≤ cap) :
    (Builtin.append_ #[t, t] ty #[.slice (some a) n cap, .slice p 0 c]).run P w = .ok (.slice (some a) n cap) w := by
  cases hq : P.info? e with
  | none => simp [hq] at hs
  | some i =>
    have hl : ∀ (x : Addr), (loadCells x 0).run P w = .ok #[] w := fun x => by simpa using run_loadCells_list (P := P) w x [] (by simp)
    cases p <;> simp [Builtin.append_, run_underlying hu, Builtin.lenOf, Builtin.firstCells, sizeOf, typeInfo, hq, storeCells, hl, hle]
theorem wpList_append_zero {P : Program} {w : World} {ops : Array Oper} {rest : List Oper} {o : Oper} {a : Act} {Q : Exit → Act → World → Prop} (hgd : o.guard = none) (d s : Operand) (t : TypeId)
    (ho : o.op = .call { callee := .builtin .append, args := #[d, s], argTypes := #[t, t] }) (e : TypeId) (size : Nat) (hu : P.underlying t = some (.slice e)) (hs : (P.info? e).map (·.size) = some size)
    (ad : Addr) (n cap c : Nat) (p : Option Addr) (hle : n ≤ cap) (hd : a.eval d = .slice (some ad) n cap) (hx : a.eval s = .slice p 0 c)
    (h : wpList P ops Q rest (a.put o.dst (.slice (some ad) n cap)) w) : wpList P ops Q (o :: rest) a w := by
  refine wpList_plain hgd fun K hK => ?_
  have hrun := run_append_zero (P := P) w t e o.type size hu hs ad n cap c p hle
  unfold Oper.wp
  simp [execOp, ho, resolve, invoke, builtin, hd, hx, hrun, Result.andThen]
  exact hK _ _ h
set_option maxHeartbeats 4000000 in
set_option maxRecDepth 100000 in
theorem named_any (x : PEnd) (vc vt : Value) (w : World) (h : EndL w vc vt x) (hs : SmE x) :
    Calls Tryd.prog 70 #[endV x vc vt] w (OwnL w (namedL x)) := by
  obtain ⟨b1, b2⟩ := hs
  unfold reachBytes at b1 b2
  have HC := Lib.hid h.cases
  have HT := Lib.hid h.targets
  obtain ⟨cp, cc, rfl⟩ := h.cases.form
  obtain ⟨tp, tc, rfl⟩ := h.targets.form
  obtain ⟨kd, op, a, b, n, dst, els, cases, targets⟩ := x
  simp only at *
  unfold endV
  clear h
  by_cases k1 : kd = 1
  · subst k1
    clear HC HT b1 b2
    go_enter Tryd.func70, Tryd.ntmps70
    go_wp2
    go_ret
    exact ⟨_, rfl, own_new _ _ _ [dst] (below_alloc w _).size (World.size_alloc _ _) (by unfold maxLen; simp), below2 w _ _⟩
  by_cases k2 : kd = 2
  · subst k2
    clear HC HT b1 b2 k1
    go_enter Tryd.func70, Tryd.ntmps70
    go_wp2
    go_ret
    exact ⟨_, rfl, own_new _ _ _ [dst, els] (below_alloc w _).size (World.size_alloc _ _) (by unfold maxLen; simp), below2 w _ _⟩
  by_cases k3 : kd = 3
  · subst k3
    have hL : namedL ⟨3, op, a, b, n, dst, els, cases, targets⟩ = dst :: cases.map (·.to) := rfl
    rw [hL]
    obtain ⟨m, hm⟩ : ∃ m, m = cases.length := ⟨_, rfl⟩
    have HN := Lib.hid hm
    rw [← hm] at b1 ⊢
    have HB1 := Lib.hid b1
    have b3 : m ≤ 9223372036854775807 := by omega
    have b4 : (m : Int) ≤ 9223372036854775807 := by omega
    clear HT b1 b2 k1 k2 hL hm
    go_enter Tryd.func70, Tryd.ntmps70
    go_wp2
    go_loopw [3, 28] (fun v i wr => ∃ k : Nat, k ≤ m ∧ i = .int .i64 k ∧ Hid (wr.ownsRow w.heap.size 3 1 v (k + 1) ((dst :: (cases.take k).map (·.to)).map iv)) ∧ Below w.heap.size w wr) (fun _ i _ => m - (intOf i).toNat)
    case atStart => exact ⟨0, Nat.zero_le _, rfl, Lib.hid (own_new _ _ _ [dst] (below_alloc w _).size (World.size_alloc _ _) (by unfold maxLen; simp)), below2 w _ _⟩
    case round =>
      obtain ⟨k, hk, rfl, HV, hbw⟩ := hrel
      have HBW := Lib.hid hbw
      by_cases hlt : k < m
      · obtain ⟨t, ht⟩ := getN HN.out hlt
        obtain ⟨g, o, cap, hv, hcap, hgl, hcell⟩ := SlR.form2 HC.out (by have := HN.out; omega)
        injection hv with hv hvn hv2
        clear hvn
        subst hv hv2
        obtain ⟨c0, c1⟩ := hcell k (by have := HN.out; omega) t ht
        replace c0 := (hbw.cell (p := ⟨g, o + k * 2, none⟩) hgl).trans c0
        replace c1 := (hbw.cell (p := ⟨g, o + k * 2 + 1, none⟩) hgl).trans c1
        have l0 : g < wr.heap.size := Nat.lt_of_lt_of_le hgl hbw.size
        have HTK := Lib.hid (map_take ht dst)
        have k0 : (0 : Int) ≤ k := by omega
        have k1 : (k : Int) < m := by omega
        have k2 : (m : Int) ≤ cc := by have := HN.out; omega
        clear ht hbw hcap hcell
        obtain ⟨i0, hi, hz0, hz1, hz2⟩ := info_parts info_int
        have HI := Lib.hid hi
        have hb3 := below2 wr (.cells #[.int .u32 t.n, .int .i64 t.to] 83) (.cells #[iv t.to] 3)
        have HR := Lib.hid (row_below HV.out hb3)
        have HBT := Lib.hid (below_then HBW.out hb3)
        have HNW := Lib.hid (news_one (w := wr.alloc (.cells #[.int .u32 t.n, .int .i64 t.to] 83)) (x := t.to) (H := wr.heap.size + 1) (World.size_alloc _ _))
        clear hi hb3
        go_wp2_with (
          at_builtin
          go_loud (refine wpList_append_lies _ (by rfl) _ _ 22 (by rfl) w.heap.size 3 i0 _ 1 8 Tryd.underlying22 HI.out hz0 hz1 hz2 rfl (by omega) _ (k + 1) _ (by rfl) HR.out ⟨wr.heap.size + 1, 0, none⟩ 1 1 [iv t.to] (by rfl) rfl HNW.out (by simp [iv, Value.oneCell']) (by omega) (by unfold maxLen; have := HB1.out; omega) (by have := HB1.out; omega) HBT.out.size _ rfl ?_)
          intro g5 c5 w5 h5 h6 _ _
          have H5 := Lib.hid h5
          have H6 := Lib.hid (Below.grown HBT.out h6 HBT.out.size (fun q hq => (World.ownsRow.lt HR.out q hq).1))
          clear h5 h6)
        exact ⟨⟨k + 1, by omega, by go_num, by rw [HTK.out]; exact H5, H6.out⟩, by simp [intOf]; omega⟩
      · obtain rfl : k = m := by omega
        clear hbw
        go_wp2
        go_ret
        exact ⟨_, rfl, by have := HV.out; rw [HN.out, List.take_length] at this; simpa [HN.out] using this, HBW.out⟩
  by_cases k4 : kd = 4
  · subst k4
    have hL : namedL ⟨4, op, a, b, n, dst, els, cases, targets⟩ = dst :: targets := rfl
    rw [hL]
    clear HC b1 k1 k2 k3 hL
    by_cases h0 : targets.length = 0
    · have e1 : targets = [] := List.length_eq_zero_iff.1 h0
      subst e1
      clear HT b2 h0
      simp only [List.length_nil]
      go_enter Tryd.func70, Tryd.ntmps70
      go_wp2_with (
        at_builtin
        refine wpList_append_zero (by rfl) _ _ 22 (by rfl) 3 1 Tryd.underlying22 (by kernel_rfl) _ 1 1 tc tp (by omega) (by rfl) (by rfl) ?_)
      go_ret
      exact ⟨_, rfl, own_new _ _ _ [dst] (below_alloc w _).size (World.size_alloc _ _) (by unfold maxLen; simp), below2 w _ _⟩
    · obtain ⟨g, o, cap, hv, hcap, hgl, hcell⟩ := SlR.form2 HT.out (by omega)
      injection hv with hv hvn hv2
      clear hvn
      subst hv hv2
      obtain ⟨m, hm⟩ : ∃ m, m = targets.length := ⟨_, rfl⟩
      have hm0 : 0 < m := by omega
      have HM := Lib.hid hm
      have HBB : Hid (m * 8 ≤ 140737488351232) := Lib.hid (by rw [hm]; exact b2)
      rw [← hm]
      obtain ⟨i0, hi, hz0, hz1, hz2⟩ := info_parts info_int
      have HI := Lib.hid hi
      generalize hbx : (Obj.cells #[.int .i64 4, .int .i64 op, .int .i64 a, .int .i64 b, .int .u32 n, .int .i64 dst, .int .i64 els, .slice cp cases.length cc, .slice (some ⟨g, o, none⟩) m tc] 40) = bx
      have hb3 := below2 w bx (.cells #[iv dst] 3)
      have HBT := Lib.hid hb3
      have HR := Lib.hid (own_new (w.alloc bx) w.heap.size (w.heap.size + 1) [dst] (below_alloc w _).size (World.size_alloc _ _) (by unfold maxLen; simp))
      have HNW : Hid (∀ j u, (targets.map iv)[j]? = some u → ((w.alloc bx).alloc (.cells #[iv dst] 3)).cell? ((⟨g, o, none⟩ : Addr).add j) = some u) := Lib.hid (fun j u hj => by
        rw [List.getElem?_map] at hj
        obtain ⟨x, hx, rfl⟩ := Option.map_eq_some_iff.1 hj
        have hjl : j < targets.length := by
          rcases Nat.lt_or_ge j targets.length with h | h
          · exact h
          · rw [List.getElem?_eq_none h] at hx; cases hx
        have h1 := hcell j hjl x hx
        rw [Nat.mul_one] at h1
        rw [add_none, hb3.cell (p := ⟨g, o + j, none⟩) hgl]
        exact h1)
      have HH := Lib.hid hbx
      clear hi hb3 hcell hcap HT h0 hm b2 hbx
      go_enter Tryd.func70, Tryd.ntmps70
      go_wp2_with (
        at_builtin
        rw [HH.out]
        go_loud (refine wpList_append_lies _ (by rfl) _ _ 22 (by rfl) w.heap.size 3 i0 _ 1 8 Tryd.underlying22 HI.out hz0 hz1 hz2 rfl (by omega) _ 1 _ (by rfl) HR.out ⟨g, o, none⟩ m tc (targets.map iv) (by rfl) (by rw [List.length_map, HM.out, Nat.mul_one]) HNW.out (by intro u hu; obtain ⟨x, _, rfl⟩ := List.mem_map.1 hu; rfl) hm0 (by unfold maxLen; have := HBB.out; omega) (by have := HBB.out; omega) HBT.out.size _ rfl ?_)
        intro g5 c5 w5 h5 h6 _ _
        have H5 := Lib.hid h5
        have H6 := Lib.hid (Below.grown HBT.out h6 HBT.out.size (fun q hq => (World.ownsRow.lt HR.out q hq).1))
        clear h5 h6)
      go_ret
      refine ⟨_, rfl, ?_, H6.out⟩
      rw [show (dst :: targets).length = 1 + m by rw [List.length_cons, HM.out, Nat.add_comm]]
      exact H5.out
  · have e1 : (kd == 1) = false := by simpa using k1
    have e2 : (kd == 2) = false := by simpa using k2
    have e3 : (kd == 3) = false := by simpa using k3
    have e4 : (kd == 4) = false := by simpa using k4
    have hL : namedL ⟨kd, op, a, b, n, dst, els, cases, targets⟩ = [] := by simp [namedL, k1, k2, k3, k4]
    rw [hL]
    clear HC HT b1 b2 hL k1 k2 k3 k4
    go_enter Tryd.func70, Tryd.ntmps70
    go_wp2
    go_ret
    exact ⟨_, rfl, World.ownsRow_nil _ _ _ _, below_alloc w _⟩
end Go.Proofs.YtcijaaiopfbffaaDoor.Graph
