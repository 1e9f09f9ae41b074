/- The law's same and sameAll where both are the same; alive. No condition but the table of bits. -/
import Derived.Test.YtdmmeeolkonmeaaDoorLmb
namespace Go.Proofs.YtdmmeeolkonmeaaDoor.Live
open Go.RowKit Go.Proofs.YtdmmeeolkonmeaaDoor.Graph Go.Shelf

def RowsR (w : World) (v : Value) (l : List (List Int)) : Prop := SlR w 1 v l.length fun i b o => ∀ x, l[i]? = some x → ∃ u, w.cell? ⟨b, o, none⟩ = some u ∧ IntsR w u x
theorem RowsR.below {w w' : World} {v : Value} {l : List (List Int)} (h : RowsR w v l) (hb : Below w.heap.size w w') : RowsR w' v l :=
  SlR.below h hb fun _ _ _ hl hP x hx => let ⟨u, h1, h2⟩ := hP x hx; ⟨u, (cell_below hb hl _).trans h1, h2.below hb⟩
set_option maxHeartbeats 4000000 in
set_option maxRecDepth 100000 in
theorem same_true (l : List Int) (va vb : Value) (w : World) (ha : IntsR w va l) (hb : IntsR w vb l) :
    Calls Tryd.prog 20 #[va, vb] w (Is (.bool true) w) := by
  obtain ⟨pa, ca, rfl⟩ := ha.form
  obtain ⟨pb, cb, rfl⟩ := hb.form
  have HA := Lib.hid ha
  have HB := Lib.hid hb
  obtain ⟨n, hn⟩ : ∃ n, n = l.length := ⟨_, rfl⟩
  have HN := Lib.hid hn
  rw [← hn]
  clear ha hb hn
  go_enter Tryd.func20, Tryd.ntmps20
  go_wp2
  go_loopw [5] (fun i wr => ∃ k : Nat, k ≤ n ∧ i = .int .i64 k ∧ Hid (Below w.heap.size w wr)) (fun i _ => n - (intOf i).toNat)
  case atStart => exact ⟨0, Nat.zero_le _, rfl, Lib.hid (Below.refl _ _)⟩
  case round =>
    obtain ⟨k, hk, rfl, HW⟩ := hrel
    by_cases hkn : k < n
    · obtain ⟨x, hx⟩ : ∃ x, l[k]? = some x := ⟨_, List.getElem?_eq_getElem (by have := HN.out; omega)⟩
      obtain ⟨g, o, c', hv, hc, hg, hc1, hc2⟩ := ints_cell (HA.out.below HW.out) hx
      obtain ⟨g', o', c'', hv', hc', hg', hc1', hc2'⟩ := ints_cell (HB.out.below HW.out) hx
      rw [← HN.out] at hv hc1 hv' hc1'
      injection hv with e1 _ e3
      subst e1 e3
      injection hv' with e1 _ e3
      subst e1 e3
      have ki : (k : Int) < n := by omega
      have k0 : (0 : Int) ≤ k := by omega
      have k2 : (n : Int) ≤ ca := by omega
      have k3 : (ca : Int) ≤ 9223372036854775807 := by omega
      have k4 : (n : Int) ≤ cb := by omega
      have k5 : (cb : Int) ≤ 9223372036854775807 := by omega
      clear hx hc1 hc2 hc1' hc2'
      go_upto_region 6 with (fail)
      go_cut [25] from 17 to 25 (fun v wq => v = .bool false ∧ Hid (Below wr.heap.size wr wq))
      case first =>
        go_region
        all_goals
          go_wp2
          go_meet
          exact ⟨by simp, Lib.hid (Graph.below_drewN wr _)⟩
      case rest =>
        obtain ⟨rfl, HQ⟩ := hcut
        clear hc hc' 
        go_wp2
        exact ⟨⟨k + 1, by omega, by go_num, Lib.hid (below_then HW.out HQ.out)⟩, by simp [intOf]; omega⟩
    · have hkn2 : k = n := by omega
      have hki : ¬ ((k : Int) < n) := by omega
      go_wp2
      go_ret
      exact ⟨rfl, HW.out⟩
set_option maxHeartbeats 4000000 in
set_option maxRecDepth 100000 in
theorem sameAll_true (l : List (List Int)) (va vb : Value) (w : World) (ha : RowsR w va l) (hb : RowsR w vb l) :
    Calls Tryd.prog 14 #[va, vb] w (Is (.bool true) w) := by
  obtain ⟨pa, ca, rfl⟩ := ha.form
  obtain ⟨pb, cb, rfl⟩ := hb.form
  have HA := Lib.hid ha
  have HB := Lib.hid hb
  obtain ⟨n, hn⟩ : ∃ n, n = l.length := ⟨_, rfl⟩
  have HN := Lib.hid hn
  rw [← hn]
  clear ha hb hn
  go_enter Tryd.func14, Tryd.ntmps14
  go_wp2
  go_loopw [5] (fun i wr => ∃ k : Nat, k ≤ n ∧ i = .int .i64 k ∧ Hid (Below w.heap.size w wr)) (fun i _ => n - (intOf i).toNat)
  case atStart => exact ⟨0, Nat.zero_le _, rfl, Lib.hid (Below.refl _ _)⟩
  case round =>
    obtain ⟨k, hk, rfl, HW⟩ := hrel
    by_cases hkn : k < n
    · obtain ⟨x, hx⟩ : ∃ x, l[k]? = some x := ⟨_, List.getElem?_eq_getElem (by have := HN.out; omega)⟩
      obtain ⟨g, o, c', hv, hcap, hg, hP⟩ := SlR.form2 (HA.out.below HW.out) (by have := HN.out; omega)
      obtain ⟨g', o', c'', hv', hcap', hg', hP'⟩ := SlR.form2 (HB.out.below HW.out) (by have := HN.out; omega)
      injection hv with e1 _ e3
      subst e1 e3
      injection hv' with e1 _ e3
      subst e1 e3
      obtain ⟨u, hu1, hu2⟩ := hP k (by have := HN.out; omega) x hx
      obtain ⟨u', hu1', hu2'⟩ := hP' k (by have := HN.out; omega) x hx
      rw [Nat.mul_one] at hu1 hu1'
      have ki : (k : Int) < n := by omega
      have k0 : (0 : Int) ≤ k := by omega
      have k2 : (n : Int) ≤ ca := by have := HN.out; omega
      have k3 : (ca : Int) ≤ 9223372036854775807 := by omega
      have k4 : (n : Int) ≤ cb := by have := HN.out; omega
      have k5 : (cb : Int) ≤ 9223372036854775807 := by omega
      have HSM := Lib.hid (fun (W : World) (hW : Below wr.heap.size wr W) => same_true x u u' W (hu2.below hW) (hu2'.below hW))
      have HCE : Hid (∀ W : World, Below wr.heap.size wr W → W.cell? ⟨g, o + k, none⟩ = some u ∧ W.cell? ⟨g', o' + k, none⟩ = some u') := Lib.hid (fun W hW => ⟨(cell_below hW hg _).trans hu1, (cell_below hW hg' _).trans hu1'⟩)
      obtain ⟨q, qn, rfl⟩ := hu2.form
      obtain ⟨q', qn', rfl⟩ := hu2'.form
      clear hx hcap hcap' hP hP' hu2 hu2'
      go_upto_region 6 with (fail)
      go_cut [26] from 17 to 26 (fun v wq => v = .bool false ∧ Hid (Below wr.heap.size wr wq))
      case first =>
        go_region_held3 (fun W => W.cell? ⟨g, o + k, none⟩ = some (.slice q x.length qn) ∧ W.cell? ⟨g', o' + k, none⟩ = some (.slice q' x.length qn')) (go_keep) (first
          | (go_at_call 20
             refine (HSM.out _ (Below.refl _ _).drew).mono ?_
             rintro e w5 ⟨rfl, hb5⟩
             have HB5 : Hid (Below wr.heap.size wr w5) := Lib.hid (below_then (Below.refl _ _).drew hb5)
             obtain ⟨z0, z1⟩ := HCE.out w5 HB5.out
             clear hb5))
        all_goals
          go_wp2
          go_meet
          exact ⟨rfl, HB5⟩
      case rest =>
        obtain ⟨rfl, HQ⟩ := hcut
        clear hu1 hu1'
        go_wp2
        exact ⟨⟨k + 1, by omega, by go_num, Lib.hid (below_then HW.out HQ.out)⟩, by simp [intOf]; omega⟩
    · have hkn2 : k = n := by omega
      have hki : ¬ ((k : Int) < n) := by omega
      go_wp2
      go_ret
      exact ⟨rfl, HW.out⟩
/-- The graph of the law's alive. -/
def alG : PGr := ⟨[], 3, [], [⟨[⟨6, 0, 1, 2, 0, 0, [], []⟩], ⟨5, 0, 0, 0, 0, 0, 0, [], []⟩⟩]⟩
theorem al_need (b : Nat) (t : Int) : Need alG b t ↔ b = 0 ∧ (t = 1 ∨ t = 2) := by
  constructor
  · intro h
    have hb : b = 0 := by have := h.lt; simp [alG] at this; omega
    subst hb
    refine ⟨rfl, ?_⟩
    cases h with
    | use hb h1 =>
      simp only [alG, List.getElem?_cons_zero, Option.some.injEq] at hb
      subst hb
      simp only [firstB, firstC, usesI, setsT, usesE] at h1
      by_cases h2 : t = 1 ∨ t = 2
      · exact h2
      · have e1 : ¬ t = 1 := fun h => h2 (.inl h)
        have e2 : ¬ t = 2 := fun h => h2 (.inr h)
        by_cases e0 : t = 0
        · subst e0; simp at h1
        · have e0' : ¬ (0 : Int) = t := fun h => e0 h.symm
          simp [e0, e0', e1, e2] at h1
    | step hb _ hc _ =>
      simp only [alG, List.getElem?_cons_zero, Option.some.injEq] at hb
      subst hb
      simp [namedN] at hc
  · rintro ⟨rfl, h⟩
    refine .use (blk := ⟨[⟨6, 0, 1, 2, 0, 0, [], []⟩], ⟨5, 0, 0, 0, 0, 0, 0, [], []⟩⟩) rfl ?_
    rcases h with rfl | rfl <;> rfl
theorem al_list : needN alG 0 = [1, 2] := by
  unfold needN
  rw [show alG.temps.toNat = 3 by rfl, show List.range 3 = [0, 1, 2] by rfl]
  have h0 : ¬ Need alG 0 ((0 : Nat) : Int) := fun h => by have := (al_need _ _).1 h; omega
  have h1 : Need alG 0 ((1 : Nat) : Int) := (al_need _ _).2 ⟨rfl, .inl rfl⟩
  have h2 : Need alG 0 ((2 : Nat) : Int) := (al_need _ _).2 ⟨rfl, .inr rfl⟩
  rw [List.filter_cons_of_neg (by simpa using h0), List.filter_cons_of_pos (by simpa using h1), List.filter_cons_of_pos (by simpa using h2), List.filter_nil]
theorem al_fits : fitsB alG = true := by decide
theorem al_sm : SmG alG := by simp [SmG, alG, SmB, SmI, SmE, reachBytes]
end Go.Proofs.YtdmmeeolkonmeaaDoor.Live
