/- The law RelaxAll: lists made of any numbers are taken. No condition but sizes, what Assemble does, and the table of forms. -/
import Derived.Test.YtbbfjlheaaalkaaDoorCl
import Derived.Test.YtbbfjlheaaalkaaDoorPk
import Derived.Test.YtbbfjlheaaalkaaDoorPq
import Derived.Test.YtbbfjlheaaalkaaDoorEd
import Derived.Deep.CutBlock
namespace Go.Proofs.YtbbfjlheaaalkaaDoor.Relax
open Go.RowKit Go.Proofs.YtbbfjlheaaalkaaDoor.Enc Go.Proofs.YtbbfjlheaaalkaaDoor.Graph

/-- A line's list as this law makes them: none, or a row of two. -/
def ListK (w : World) (q : PL × Value) : Prop :=
  (q.2 = .slice none 0 0 ∧ q.1.list = []) ∨ ∃ g a b, q.2 = .slice (some ⟨g, 0, none⟩) 2 2 ∧ q.1.list = [a, b] ∧ w.heap[g]? = some (.cells #[.int .i64 a, .int .i64 b] 3 (0, 0))
theorem ListK.below {w w' : World} {q : PL × Value} (h : ListK w q) (hb : Below w.heap.size w w') : ListK w' q := by
  rcases h with h | ⟨g, a, b, h1, h2, h3⟩
  · exact .inl h
  · exact .inr ⟨g, a, b, h1, h2, (hb.block _ (Array.getElem?_eq_some_iff.1 h3).1).trans h3⟩
theorem ListK.grown {w w' : World} {q : PL × Value} {B n : Nat} {v : Value} {xs : List Value} (h : ListK w q) (ho : w.ownsRow B 39 7 v n xs) (hg : w.grownBy w' v.ownBlock) : ListK w' q := by
  rcases h with h | ⟨g, a, b, h1, h2, h3⟩
  · exact .inl h
  · refine .inr ⟨g, a, b, h1, h2, (hg.block _ (Array.getElem?_eq_some_iff.1 h3).1 fun e => ?_).trans h3⟩
    obtain ⟨_, ⟨rfl, _⟩ | ⟨g', cap, cur, rfl, _, h4, _⟩⟩ := ho
    · simp [Value.ownBlock] at e
    · simp [Value.ownBlock] at e
      subst e
      rw [h3] at h4
      injection h4 with h4
      injection h4 with _ h4
      exact absurd h4 (by decide)
theorem ListK.ints {w : World} {q : PL × Value} (h : ListK w q) : IntsR w q.2 q.1.list := by
  rcases h with ⟨h1, h2⟩ | ⟨g, a, b, h1, h2, h3⟩
  · rw [h1, h2]; exact .inl ⟨rfl, _, _, rfl⟩
  · rw [h1, h2]
    refine .inr ⟨g, 0, 2, rfl, Nat.succ_pos _, ⟨Nat.le_refl _, by decide⟩, (Array.getElem?_eq_some_iff.1 h3).1, fun i hi x hx => ?_⟩
    match i, hx with
    | 0, hx => injection hx with hx; subst hx; simp [World.cell?, h3]
    | 1, hx => injection hx with hx; subst hx; simp [World.cell?, h3]
def set7 (w : World) (b : Nat) (v0 v1 v2 v3 v4 v5 v6 : Value) : World := ((((((w.setCell ⟨b, 0, none⟩ v0).setCell ⟨b, 1, none⟩ v1).setCell ⟨b, 2, none⟩ v2).setCell ⟨b, 3, none⟩ v3).setCell ⟨b, 4, none⟩ v4).setCell ⟨b, 5, none⟩ v5).setCell ⟨b, 6, none⟩ v6
theorem set_other {w : World} {b k i : Nat} {v : Value} (h : i ≠ b) : (w.setCell ⟨b, k, none⟩ v).heap[i]? = w.heap[i]? := Below.heap_setCell w ⟨b, k, none⟩ v i h
theorem set_same {w : World} {b k : Nat} {cs : Array Value} {t : TypeId} {v : Value} (h : w.heap[b]? = some (.cells cs t (0, 0))) : (w.setCell ⟨b, k, none⟩ v).heap[b]? = some (.cells (cs.setIfInBounds k v) t (0, 0)) := by
  simp [World.setCell, Array.getElem?_modify, h]
theorem seven {w : World} {b : Nat} {c0 c1 c2 c3 c4 c5 c6 : Value} {t : TypeId} (h : w.heap[b]? = some (.cells #[c0, c1, c2, c3, c4, c5, c6] t (0, 0))) (v0 v1 v2 v3 v4 v5 v6 : Value) :
    (set7 w b v0 v1 v2 v3 v4 v5 v6).heap[b]? = some (.cells #[v0, v1, v2, v3, v4, v5, v6] t (0, 0)) ∧ (∀ i, i ≠ b → (set7 w b v0 v1 v2 v3 v4 v5 v6).heap[i]? = w.heap[i]?) ∧ ∀ B w0, Below B w0 w → B ≤ b → Below B w0 (set7 w b v0 v1 v2 v3 v4 v5 v6) := by
  unfold set7
  have h0 : (w.setCell ⟨b, 0, none⟩ v0).heap[b]? = some (.cells #[v0, c1, c2, c3, c4, c5, c6] t (0, 0)) := set_same h
  have h1 : ((w.setCell ⟨b, 0, none⟩ v0).setCell ⟨b, 1, none⟩ v1).heap[b]? = some (.cells #[v0, v1, c2, c3, c4, c5, c6] t (0, 0)) := set_same h0
  have h2 : (((w.setCell ⟨b, 0, none⟩ v0).setCell ⟨b, 1, none⟩ v1).setCell ⟨b, 2, none⟩ v2).heap[b]? = some (.cells #[v0, v1, v2, c3, c4, c5, c6] t (0, 0)) := set_same h1
  have h3 : ((((w.setCell ⟨b, 0, none⟩ v0).setCell ⟨b, 1, none⟩ v1).setCell ⟨b, 2, none⟩ v2).setCell ⟨b, 3, none⟩ v3).heap[b]? = some (.cells #[v0, v1, v2, v3, c4, c5, c6] t (0, 0)) := set_same h2
  have h4 : (((((w.setCell ⟨b, 0, none⟩ v0).setCell ⟨b, 1, none⟩ v1).setCell ⟨b, 2, none⟩ v2).setCell ⟨b, 3, none⟩ v3).setCell ⟨b, 4, none⟩ v4).heap[b]? = some (.cells #[v0, v1, v2, v3, v4, c5, c6] t (0, 0)) := set_same h3
  have h5 : ((((((w.setCell ⟨b, 0, none⟩ v0).setCell ⟨b, 1, none⟩ v1).setCell ⟨b, 2, none⟩ v2).setCell ⟨b, 3, none⟩ v3).setCell ⟨b, 4, none⟩ v4).setCell ⟨b, 5, none⟩ v5).heap[b]? = some (.cells #[v0, v1, v2, v3, v4, v5, c6] t (0, 0)) := set_same h4
  refine ⟨set_same h5, fun i hi => ?_, fun B w0 hb hB => ((((((hb.setCell (p := ⟨b, 0, none⟩) hB _).setCell (p := ⟨b, 1, none⟩) hB _).setCell (p := ⟨b, 2, none⟩) hB _).setCell (p := ⟨b, 3, none⟩) hB _).setCell (p := ⟨b, 4, none⟩) hB _).setCell (p := ⟨b, 5, none⟩) hB _).setCell (p := ⟨b, 6, none⟩) hB _⟩
  rw [set_other hi, set_other hi, set_other hi, set_other hi, set_other hi, set_other hi, set_other hi]
theorem own_below17 {w w' : World} {B n sz : Nat} {e : TypeId} {v : Value} {xs : List Value} (h : w.ownsRow B e sz v n xs) (hb : Below w.heap.size w w') : w'.ownsRow B e sz v n xs :=
  World.ownsRow.kept (row := none) h ⟨hb.os, hb.tape, hb.output, hb.size, fun k hk _ => hb.block k hk⟩ (by cases hq : v.ownBlock <;> simp)
theorem line_new (w : World) (q : PL × Value) (t : TypeId) : ∀ j u, (flatL [q])[j]? = some u → (w.alloc (.cells #[.int .i64 q.1.op, .int .i64 q.1.a, .int .i64 q.1.b, .int .i64 q.1.imm, .int .u32 q.1.n, .int .i64 q.1.label, q.2] t)).cell? ((⟨w.heap.size, 0, none⟩ : Addr).add j) = some u := fun j u hj => by
  rw [Go.WideShapes.add_plain]
  refine cell_of_block (heap_alloc_new w _) ?_
  have e : flatL [q] = lineCs q := by simp [flatL]
  rw [e] at hj
  rw [Nat.zero_add]
  match j, hj with
  | 0, hj => exact hj
  | 1, hj => exact hj
  | 2, hj => exact hj
  | 3, hj => exact hj
  | 4, hj => exact hj
  | 5, hj => exact hj
  | 6, hj => exact hj
def listsK (w : World) (ps : List (PL × Value)) : Prop := ∀ q ∈ ps, ListK w q
theorem listsK.below {w w' : World} {ps : List (PL × Value)} (h : listsK w ps) (hb : Below w.heap.size w w') : listsK w' ps := fun q hq => (h q hq).below hb
theorem listsK.app {w : World} {ps : List (PL × Value)} {q : PL × Value} (h : listsK w ps) (k : ListK w q) : listsK w (ps ++ [q]) := fun x hx => by
  rcases List.mem_append.1 hx with hx | hx
  · exact h x hx
  · rw [List.mem_singleton.1 hx]; exact k
theorem listsK.grown {w w' : World} {ps : List (PL × Value)} {B n : Nat} {v : Value} {xs : List Value} (h : listsK w ps) (ho : w.ownsRow B 39 7 v n xs) (hg : w.grownBy w' v.ownBlock) : listsK w' ps := fun q hq => (h q hq).grown ho hg
theorem listsK_at {w : World} {ps : List (PL × Value)} (h : listsK w ps) : ListsAt w ps := fun q hq => (h q hq).ints
set_option maxHeartbeats 16000000 in
set_option maxRecDepth 100000 in
theorem relaxAll_any (D : DoesAsm) (raw : List Int) (v : Value) (labels : Int) (w : World) (h : IntsR w v raw) (hr : ∀ x ∈ raw, -9223372036854775808 ≤ x ∧ x ≤ 9223372036854775807) (hl : -9223372036854775808 ≤ labels ∧ labels ≤ 9223372036854775807) (hF : FormsAt w) :
    Calls Tryd.prog 4 #[v, .int .i64 labels] w (Is (.bool true) w) := by
  obtain ⟨p, c, rfl⟩ := h.form
  have HV := Lib.hid h
  have HRR := Lib.hid hr
  have HFW := Lib.hid hF
  have HPK := Lib.hid (fun (W : World) => pick_any labels 50 hl.1 hl.2 (by decide) (by decide) W)
  obtain ⟨K, hK⟩ : ∃ K, K = pickN labels 50 := ⟨_, rfl⟩
  have hK50 : K < 50 := by rw [hK]; exact pickN_lt labels (by decide)
  unfold PickPost at HPK
  rw [← hK] at HPK
  obtain ⟨L, hLK⟩ : ∃ L, L = 1 + K := ⟨_, rfl⟩
  have HL := Lib.hid (show 0 < L ∧ L ≤ 50 by omega)
  have HLK := Lib.hid hLK
  obtain ⟨n, hn⟩ : ∃ n, n = raw.length := ⟨_, rfl⟩
  have HN := Lib.hid hn
  rw [← hn]
  clear h hr hF hK hn
  go_enter Tryd.func4, Tryd.ntmps4
  go_upto_region 4 with (
    go_at_call 13
    refine (HPK.out _).mono ?_
    rintro e w1 ⟨rfl, rfl⟩)
  have eL : (1 : Int) + (K : Int) = (L : Int) := by omega
  rw [eL]
  have HB0 : Hid (Below w1.heap.size w1 w1) := Lib.hid (Below.refl _ _)
  obtain ⟨ns, hns⟩ : ∃ ns : List Int, ns = raw.map fun x => (pickN x 1073741824 : Int) := ⟨_, rfl⟩
  have HNS := Lib.hid hns
  have HNL : Hid (ns.length = n) := Lib.hid (by rw [hns, List.length_map, HN.out])
  have n0 : (0 : Int) ≤ n := by omega
  have l0 : (0 : Int) < L := by have := HL.out; omega
  have l50 : (L : Int) ≤ 50 := by have := HL.out; omega
  clear eL hLK hK50 HLK hns HPK
  go_loopw [5, 6] (fun o i wr => ∃ (k : Nat) (ps : List (PL × Value)), k ≤ n ∧ k ≤ 2000 ∧ i = .int .i64 k ∧ Hid (ps.map (·.1) = midL L ns k ∧ ps.length = k + min k L) ∧ Hid (wr.ownsRow w1.heap.size 39 7 o ps.length (flatL ps)) ∧ Hid (listsK wr ps) ∧ Hid (Below w1.heap.size w1 wr)) (fun _ i _ => n - (intOf i).toNat)
  case atStart => exact ⟨0, [], Nat.zero_le _, Nat.zero_le _, rfl, Lib.hid ⟨rfl, by simp⟩, Lib.hid (World.ownsRow_nil _ _ _ _), Lib.hid (fun q hq => absurd hq List.not_mem_nil), HB0⟩
  case round =>
    obtain ⟨k, ps, hk, hk2, rfl, HP, HO, HK, HW⟩ := hrel
    have k0 : (0 : Int) ≤ k := by omega
    by_cases hkn : k < n ∧ k < 2000
    · obtain ⟨x, hx⟩ : ∃ x, raw[k]? = some x := ⟨_, List.getElem?_eq_getElem (by have := HN.out; omega)⟩
      obtain ⟨b, o, y, rfl, hy, hbl, hcell, hc1, hc2⟩ := ints_pt (HV.out.below HW.out) (show k < raw.length by have := HN.out; omega)
      rw [hx] at hy
      injection hy with hy
      subst hy
      have ki : (k : Int) < n := by omega
      have k20 : (k : Int) < 2000 := by omega
      have c1 : (n : Int) ≤ c := by have := HN.out; omega
      have c2 : (c : Int) ≤ 9223372036854775807 := by omega
      have hrx := HRR.out x (List.mem_of_getElem? hx)
      have HPX := Lib.hid (fun (W : World) => pick_any x 1073741824 hrx.1 hrx.2 (by decide) (by decide) W)
      obtain ⟨m, hm⟩ : ∃ m, m = pickN x 1073741824 := ⟨_, rfl⟩
      have hm30 : m < 1073741824 := by rw [hm]; exact pickN_lt x (by decide)
      have HMK : Hid (ns.getD k 0 = (m : Int)) := Lib.hid (by rw [HNS.out, List.getD_eq_getElem?_getD, List.getElem?_map, hx, hm]; rfl)
      unfold PickPost at HPX
      rw [← hm] at HPX
      have m0 : (0 : Int) ≤ m := by omega
      have m1 : (m : Int) < 1073741824 := by omega
      have HKN := Lib.hid hkn
      clear hx hc1 hc2 hrx hm hm30 hkn
      go_upto_region 8 with (
        go_at_call 13
        refine (HPX.out _).mono ?_
        rintro e w5 ⟨rfl, rfl⟩)
      have HGO : Hid (∀ W : World, Calls Tryd.prog 14 #[.agg #[.int .i64 (1 + (m : Int) % 48), .int .i64 ((m : Int) / 48 % 12), .int .i64 ((m : Int) / 576 % 12), .int .i64 ((m : Int) / 6912 % 12), .int .u32 0, .int .i64 0, .slice none 0 0]] W fun e w' => e = .returned (.bool (goesB (numL m))) ∧ Below W.heap.size W w') := Lib.hid (fun W => goes_any (numL m) none 0 0 W)
      have HMA : Hid (∀ W : World, Calls Tryd.prog 15 #[.agg #[.int .i64 (1 + (m : Int) % 48), .int .i64 ((m : Int) / 48 % 12), .int .i64 ((m : Int) / 576 % 12), .int .i64 ((m : Int) / 6912 % 12)]] W fun e w' => e = .returned (.bool (mayP (codeOf (numL m)))) ∧ Below W.heap.size W w') := Lib.hid (fun W => rmay_any (codeOf (numL m)) W)
      have HX6 := Lib.hid (heap_alloc_new w5 (.cells #[.int .i64 (1 + (m : Int) % 48), .int .i64 ((m : Int) / 48 % 12), .int .i64 ((m : Int) / 576 % 12), .int .i64 ((m : Int) / 6912 % 12), .int .u32 0, .int .i64 0, .slice none 0 0] 39))
      have HB6 := Lib.hid (below_one w5 (.cells #[.int .i64 (1 + (m : Int) % 48), .int .i64 ((m : Int) / 48 % 12), .int .i64 ((m : Int) / 576 % 12), .int .i64 ((m : Int) / 6912 % 12), .int .u32 0, .int .i64 0, .slice none 0 0] 39))
      generalize w5.alloc (.cells #[.int .i64 (1 + (m : Int) % 48), .int .i64 ((m : Int) / 48 % 12), .int .i64 ((m : Int) / 576 % 12), .int .i64 ((m : Int) / 6912 % 12), .int .u32 0, .int .i64 0, .slice none 0 0] 39) = W6 at HX6 HB6 ⊢
      obtain ⟨wb, hwb⟩ : ∃ wb, wb = w5.heap.size := ⟨_, rfl⟩
      have HWB := Lib.hid hwb
      rw [← hwb] at HX6 ⊢
      have HCE : Hid (∀ W, Below W6.heap.size W6 W → W.heap[wb]? = some (.cells #[.int .i64 (1 + (m : Int) % 48), .int .i64 ((m : Int) / 48 % 12), .int .i64 ((m : Int) / 576 % 12), .int .i64 ((m : Int) / 6912 % 12), .int .u32 0, .int .i64 0, .slice none 0 0] 39 (0, 0))) := Lib.hid (fun W hW => (hW.block _ (Array.getElem?_eq_some_iff.1 HX6.out).1).trans HX6.out)
      have HC7 : Hid (∀ W, Below W6.heap.size W6 W → (W.cell? ⟨wb, 0, none⟩ = some (.int .i64 (1 + (m : Int) % 48)) ∧ W.cell? ⟨wb, 1, none⟩ = some (.int .i64 ((m : Int) / 48 % 12)) ∧ W.cell? ⟨wb, 2, none⟩ = some (.int .i64 ((m : Int) / 576 % 12)) ∧ W.cell? ⟨wb, 3, none⟩ = some (.int .i64 ((m : Int) / 6912 % 12)) ∧ W.cell? ⟨wb, 4, none⟩ = some (.int .u32 0) ∧ W.cell? ⟨wb, 5, none⟩ = some (.int .i64 0) ∧ W.cell? ⟨wb, 6, none⟩ = some (.slice none 0 0)) ∧ ∀ k, W.frozen? ⟨wb, k, none⟩ = false) := Lib.hid (fun W hW => by
        have hb := HCE.out W hW
        exact ⟨⟨cell_of_block hb rfl, cell_of_block hb rfl, cell_of_block hb rfl, cell_of_block hb rfl, cell_of_block hb rfl, cell_of_block hb rfl, cell_of_block hb rfl⟩, fun k => by simp [World.frozen?, hb]⟩)
      clear hwb hcell
      obtain ⟨⟨y0, y1, y2, y3, y4, y5, y6⟩, _⟩ := HC7.out W6 (Below.refl _ _)
      obtain ⟨gg, hgg⟩ : ∃ gg, gg = goesB (numL m) := ⟨_, rfl⟩
      obtain ⟨my, hmy⟩ : ∃ my, my = mayP (codeOf (numL m)) := ⟨_, rfl⟩
      have HGG := Lib.hid hgg
      have HMY := Lib.hid hmy
      rw [← hgg] at HGO
      rw [← hmy] at HMA
      clear hgg hmy
      go_upto_block 2 with (first
        | (go_at_call 14
           refine (HGO.out _).mono ?_
           rintro e w7 ⟨rfl, hb7⟩
           have HB7 := Lib.hid hb7
           obtain ⟨⟨z0, z1, z2, z3, z4, z5, z6⟩, _⟩ := HC7.out w7 hb7
           clear hb7)
        | (go_at_call 15
           refine (HMA.out _).mono ?_
           rintro e w8 ⟨rfl, hb8⟩
           have HB8 : Hid (Below W6.heap.size W6 w8) := Lib.hid (bt HB7.out hb8)
           clear hb8))
      clear y0 y1 y2 y3 y4 y5 y6 z0 z1 z2 z3 z4 z5 z6
      obtain ⟨⟨y0, y1, y2, y3, y4, y5, y6⟩, f6⟩ := HC7.out w8 HB8.out
      have HX8 := Lib.hid (HCE.out w8 HB8.out)
      have HW8 : Hid (Below w5.heap.size w5 w8) := Lib.hid (bt HB6.out HB8.out)
      have hLz : ((L : Int) == 0) = false := by simp; omega
      go_cut [] from 58 to 84 (fun wq => ∃ vq, Hid (wq.heap[wb]? = some (.cells #[.int .i64 (rawL L m).op, .int .i64 (rawL L m).a, .int .i64 (rawL L m).b, .int .i64 (rawL L m).imm, .int .u32 (rawL L m).n, .int .i64 (rawL L m).label, vq] 39 (0, 0))) ∧ Hid (ListK wq (rawL L m, vq)) ∧ Hid (Below w5.heap.size w5 wq))
      case first =>
        have q0 := f6 0
        have q1 := f6 1
        have q2 := f6 2
        have q3 := f6 3
        have q4 := f6 4
        have q5 := f6 5
        have q6 := f6 6
        clear f6
        rcases (show gg = true ∨ gg = false by cases gg <;> simp) with rfl | rfl
        · have hrw : rawL L (m : Int) = ⟨1 + (m : Int) % 48, 0, 0, 0, 0, (m : Int) / 48 % L, []⟩ := by unfold rawL; rw [if_pos HGG.out.symm]
          have HRW := Lib.hid hrw
          clear hrw
          go_upto_region 11 with (fail)
          go_region
          all_goals
            go_wp2
            go_meet
            rw [HRW.out]
            obtain ⟨hb, _, hbel⟩ := seven HX8.out (.int .i64 (1 + (m : Int) % 48)) (.int .i64 0) (.int .i64 0) (.int .i64 0) (.int .u32 0) (.int .i64 ((m : Int) / 48 % L)) (.slice none 0 0)
            unfold set7 at hb hbel
            generalize (((((((w8.setCell ⟨wb, 0, none⟩ (.int .i64 (1 + (m : Int) % 48))).setCell ⟨wb, 1, none⟩ (.int .i64 0)).setCell ⟨wb, 2, none⟩ (.int .i64 0)).setCell ⟨wb, 3, none⟩ (.int .i64 0)).setCell ⟨wb, 4, none⟩ (.int .u32 0)).setCell ⟨wb, 5, none⟩ (.int .i64 ((m : Int) / 48 % L))).setCell ⟨wb, 6, none⟩ (.slice none 0 0)) = W9 at hb hbel ⊢
            exact ⟨.slice none 0 0, Lib.hid hb, Lib.hid (.inl ⟨rfl, rfl⟩), Lib.hid (hbel _ _ HW8.out (by rw [HWB.out]; exact Nat.le_refl _)).drew⟩
        · obtain ⟨e42, he⟩ : ∃ e42, e42 = ((1 : Int) + (m : Int) % 48 == 42) := ⟨_, rfl⟩
          have HE := Lib.hid he
          rcases (show e42 = true ∨ e42 = false by cases e42 <;> simp) with rfl | rfl
          · have h42 := he.symm
            have hrw : rawL L (m : Int) = ⟨1 + (m : Int) % 48, (m : Int) / 48 % 12, 0, 0, 0, 0, [(m : Int) / 576 % L, 0]⟩ := by unfold rawL; rw [if_neg (by rw [← HGG.out]; decide), if_pos (by simpa using h42)]
            have HRW := Lib.hid hrw
            have HA8 := Lib.hid (below_one w8 (.cells #[.int .i64 ((m : Int) / 576 % (L : Int)), .int .i64 0] 3))
            have HN8 := Lib.hid (heap_alloc_new w8 (.cells #[.int .i64 ((m : Int) / 576 % (L : Int)), .int .i64 0] 3))
            obtain ⟨⟨u0, u1, u2, u3, u4, u5, u6⟩, g6⟩ := HC7.out (w8.alloc (.cells #[.int .i64 ((m : Int) / 576 % (L : Int)), .int .i64 0] 3)) (bt HB8.out HA8.out)
            have r0 := g6 0
            have r1 := g6 1
            have r2 := g6 2
            have r3 := g6 3
            have r4 := g6 4
            have r5 := g6 5
            have r6 := g6 6
            have HLT8 : Hid (wb < w8.heap.size) := Lib.hid (Array.getElem?_eq_some_iff.1 HX8.out).1
            clear he g6 hrw y2 y3 y4 y5 y6 q0 q1 q2 q3 q4 q5 q6
            go_upto_region 13 with (fail)
            go_region
            all_goals
              go_wp2
              go_meet
              rw [HRW.out]
              obtain ⟨hb, ho, hbel⟩ := seven ((HA8.out.block wb HLT8.out).trans HX8.out) (.int .i64 (1 + (m : Int) % 48)) (.int .i64 ((m : Int) / 48 % 12)) (.int .i64 0) (.int .i64 0) (.int .u32 0) (.int .i64 0) (.slice (some ⟨w8.heap.size, 0, none⟩) 2 2)
              unfold set7 at hb hbel ho
              generalize ((((((((w8.alloc (.cells #[.int .i64 ((m : Int) / 576 % (L : Int)), .int .i64 0] 3)).setCell ⟨wb, 0, none⟩ (.int .i64 (1 + (m : Int) % 48))).setCell ⟨wb, 1, none⟩ (.int .i64 ((m : Int) / 48 % 12))).setCell ⟨wb, 2, none⟩ (.int .i64 0)).setCell ⟨wb, 3, none⟩ (.int .i64 0)).setCell ⟨wb, 4, none⟩ (.int .u32 0)).setCell ⟨wb, 5, none⟩ (.int .i64 0)).setCell ⟨wb, 6, none⟩ (.slice (some ⟨w8.heap.size, 0, none⟩) 2 2)) = W9 at hb hbel ho ⊢
              exact ⟨.slice (some ⟨w8.heap.size, 0, none⟩) 2 2, Lib.hid hb, Lib.hid (.inr ⟨w8.heap.size, _, _, rfl, rfl, (ho _ (Nat.ne_of_gt HLT8.out)).trans HN8.out⟩), Lib.hid (hbel _ _ (bt HW8.out HA8.out) (by rw [HWB.out]; exact Nat.le_refl _)).drew⟩
          · have h42 := he.symm
            clear he
            rcases (show my = true ∨ my = false by cases my <;> simp) with rfl | rfl
            · have hrw : rawL L (m : Int) = numL m := by unfold rawL; rw [if_neg (by rw [← HGG.out]; decide), if_neg (by simpa using h42), if_pos HMY.out.symm]
              have HRW := Lib.hid hrw
              clear hrw
              go_wp2
              go_meet
              rw [HRW.out]
              exact ⟨.slice none 0 0, HX8, Lib.hid (.inl ⟨rfl, rfl⟩), HW8⟩
            · have hrw : rawL L (m : Int) = ⟨44, 0, 0, 0, 0, 0, []⟩ := by unfold rawL; rw [if_neg (by rw [← HGG.out]; decide), if_neg (by simpa using h42), if_neg (by rw [← HMY.out]; decide)]
              have HRW := Lib.hid hrw
              clear hrw
              go_wp2
              go_meet
              rw [HRW.out]
              obtain ⟨hb, _, hbel⟩ := seven HX8.out (.int .i64 44) (.int .i64 0) (.int .i64 0) (.int .i64 0) (.int .u32 0) (.int .i64 0) (.slice none 0 0)
              unfold set7 at hb hbel
              generalize (((((((w8.setCell ⟨wb, 0, none⟩ (.int .i64 44)).setCell ⟨wb, 1, none⟩ (.int .i64 0)).setCell ⟨wb, 2, none⟩ (.int .i64 0)).setCell ⟨wb, 3, none⟩ (.int .i64 0)).setCell ⟨wb, 4, none⟩ (.int .u32 0)).setCell ⟨wb, 5, none⟩ (.int .i64 0)).setCell ⟨wb, 6, none⟩ (.slice none 0 0)) = W9 at hb hbel ⊢
              exact ⟨.slice none 0 0, Lib.hid hb, Lib.hid (.inl ⟨rfl, rfl⟩), Lib.hid (hbel _ _ HW8.out (by rw [HWB.out]; exact Nat.le_refl _))⟩
      case rest =>
        obtain ⟨vq, HXQ, HKQ, HWQ⟩ := hcut
        clear y0 y1 y2 y3 y4 y5 y6 f6 hLz HX8 HW8
        obtain ⟨r, hrr⟩ : ∃ r, r = rawL L (m : Int) := ⟨_, rfl⟩
        have HRR2 : Hid (r = rawL L (ns.getD k 0)) := Lib.hid (by rw [HMK.out, hrr])
        rw [← hrr] at HXQ HKQ
        obtain ⟨p0, p1, p2, p3, p4, p5, p6⟩ : (wc.cell? ⟨wb, 0, none⟩ = some (.int .i64 r.op) ∧ wc.cell? ⟨wb, 1, none⟩ = some (.int .i64 r.a) ∧ wc.cell? ⟨wb, 2, none⟩ = some (.int .i64 r.b) ∧ wc.cell? ⟨wb, 3, none⟩ = some (.int .i64 r.imm) ∧ wc.cell? ⟨wb, 4, none⟩ = some (.int .u32 r.n) ∧ wc.cell? ⟨wb, 5, none⟩ = some (.int .i64 r.label) ∧ wc.cell? ⟨wb, 6, none⟩ = some vq) := ⟨cell_of_block HXQ.out rfl, cell_of_block HXQ.out rfl, cell_of_block HXQ.out rfl, cell_of_block HXQ.out rfl, cell_of_block HXQ.out rfl, cell_of_block HXQ.out rfl, cell_of_block HXQ.out rfl⟩
        clear hrr
        have HOc : Hid ((wc.alloc (.cells #[.int .i64 r.op, .int .i64 r.a, .int .i64 r.b, .int .i64 r.imm, .int .u32 r.n, .int .i64 r.label, vq] 39)).ownsRow w1.heap.size 39 7 u5 ps.length (flatL ps)) := Lib.hid (own_below17 (own_below17 HO.out HWQ.out) (below_one wc _))
        have HSc : Hid (w1.heap.size ≤ (wc.alloc (.cells #[.int .i64 r.op, .int .i64 r.a, .int .i64 r.b, .int .i64 r.imm, .int .u32 r.n, .int .i64 r.label, vq] 39)).heap.size) := Lib.hid (Nat.le_trans HW.out.size (Nat.le_trans HWQ.out.size (below_one wc _).size))
        have HKc : Hid (listsK (wc.alloc (.cells #[.int .i64 r.op, .int .i64 r.a, .int .i64 r.b, .int .i64 r.imm, .int .u32 r.n, .int .i64 r.label, vq] 39)) (ps ++ [(r, vq)])) := Lib.hid (((HK.out.below HWQ.out).app HKQ.out).below (below_one wc _))
        have HWc : Hid (Below w1.heap.size w1 (wc.alloc (.cells #[.int .i64 r.op, .int .i64 r.a, .int .i64 r.b, .int .i64 r.imm, .int .u32 r.n, .int .i64 r.label, vq] 39))) := Lib.hid (bt HW.out (bt HWQ.out (below_one wc _)))
        have HNEc : Hid (∀ j u, (flatL [(r, vq)])[j]? = some u → (wc.alloc (.cells #[.int .i64 r.op, .int .i64 r.a, .int .i64 r.b, .int .i64 r.imm, .int .u32 r.n, .int .i64 r.label, vq] 39)).cell? ((⟨wc.heap.size, 0, none⟩ : Addr).add j) = some u) := Lib.hid (line_new wc (r, vq) _)
        have HONc : Hid (∀ u ∈ flatL [(r, vq)], u.oneCell' = true) := Lib.hid (ListsAt.one (w := wc) (fun q hq => by rw [List.mem_singleton.1 hq]; exact HKQ.out.ints))
        clear HK HO
        go_upto_region 17 with (
          at_builtin
          go_loud (refine wpList_append_lines ?b1 (.tmp 85) (.tmp 87) ?b2 w1.heap.size u5 ps.length ps [(r, vq)] ?b3 HOc.out ⟨wc.heap.size, 0, none⟩ 1 1 ?b4 rfl HNEc.out HONc.out (by have := HP.out.2; have := HL.out; omega) HSc.out ?b5)
          (case b1 => rfl)
          (case b2 => rfl)
          (case b3 => rfl)
          (case b4 => rfl)
          intro v9 w9 h5 h6 h7
          have HO9 := Lib.hid h5
          have HK9 : Hid (listsK w9 (ps ++ [(r, vq)])) := Lib.hid (HKc.out.grown HOc.out h7)
          have HW9 : Hid (Below w1.heap.size w1 w9) := Lib.hid (HWc.out.trans h6)
          clear h5 h6 h7)
        have HP9 : Hid ((ps ++ [(r, vq)]).map (·.1) = midL L ns k ++ [rawL L (ns.getD k 0)] ∧ (ps ++ [(r, vq)]).length = ps.length + 1) := Lib.hid ⟨by rw [List.map_append, HP.out.1, ← HRR2.out]; rfl, by simp⟩
        clear HOc HSc HKc HWc p0 p1 p2 p3 p4 p5 p6
        generalize ps ++ [(r, vq)] = ps9 at HO9 HK9 HP9
        have hlen9 := HP9.out.2
        rw [← hlen9] at HO9
        by_cases hkl : k < L
        · have kl : (k : Int) < L := by omega
          have HOd : Hid ((w9.alloc (.cells #[.int .i64 0, .int .i64 0, .int .i64 0, .int .i64 0, .int .u32 0, .int .i64 (k : Int), .slice none 0 0] 39)).ownsRow w1.heap.size 39 7 v9 ps9.length (flatL ps9)) := Lib.hid (own_below17 HO9.out (below_one w9 _))
          have HSd : Hid (w1.heap.size ≤ (w9.alloc (.cells #[.int .i64 0, .int .i64 0, .int .i64 0, .int .i64 0, .int .u32 0, .int .i64 (k : Int), .slice none 0 0] 39)).heap.size) := Lib.hid (Nat.le_trans HW9.out.size (below_one w9 _).size)
          have HKL : Hid (ListK (w9.alloc (.cells #[.int .i64 0, .int .i64 0, .int .i64 0, .int .i64 0, .int .u32 0, .int .i64 (k : Int), .slice none 0 0] 39)) (labL k, .slice none 0 0)) := Lib.hid (.inl ⟨rfl, rfl⟩)
          have HKd : Hid (listsK (w9.alloc (.cells #[.int .i64 0, .int .i64 0, .int .i64 0, .int .i64 0, .int .u32 0, .int .i64 (k : Int), .slice none 0 0] 39)) (ps9 ++ [(labL k, .slice none 0 0)])) := Lib.hid ((HK9.out.below (below_one w9 _)).app HKL.out)
          have HWd : Hid (Below w1.heap.size w1 (w9.alloc (.cells #[.int .i64 0, .int .i64 0, .int .i64 0, .int .i64 0, .int .u32 0, .int .i64 (k : Int), .slice none 0 0] 39))) := Lib.hid (bt HW9.out (below_one w9 _))
          have HKL2 : Hid (ListK w9 (labL k, .slice none 0 0)) := Lib.hid (.inl ⟨rfl, rfl⟩)
          have HNEd : Hid (∀ j u, (flatL [(labL k, .slice none 0 0)])[j]? = some u → (w9.alloc (.cells #[.int .i64 0, .int .i64 0, .int .i64 0, .int .i64 0, .int .u32 0, .int .i64 (k : Int), .slice none 0 0] 39)).cell? ((⟨w9.heap.size, 0, none⟩ : Addr).add j) = some u) := Lib.hid (line_new w9 (labL k, .slice none 0 0) _)
          have HONd : Hid (∀ u ∈ flatL [(labL k, .slice none 0 0)], u.oneCell' = true) := Lib.hid (ListsAt.one (w := w9) (fun q hq => by rw [List.mem_singleton.1 hq]; exact HKL2.out.ints))
          have HKB : Hid (k < n ∧ k < 2000 ∧ k < L) := Lib.hid ⟨HKN.out.1, HKN.out.2, hkl⟩
          clear hlen9 hkl hk hk2
          go_wp2_with (
            at_builtin
            go_loud (refine wpList_append_lines ?c1 (.tmp 92) (.tmp 95) ?c2 w1.heap.size v9 ps9.length ps9 [(labL k, .slice none 0 0)] ?c3 HOd.out ⟨w9.heap.size, 0, none⟩ 1 1 ?c4 rfl HNEd.out HONd.out (by have := HP9.out.2; have := HP.out.2; have := HKB.out; have := HL.out; omega) HSd.out ?c5)
            (case c1 => rfl)
            (case c2 => rfl)
            (case c3 => rfl)
            (case c4 => rfl)
            intro v10 w10 h5 h6 h7
            have HO10 := Lib.hid h5
            have HK10 : Hid (listsK w10 (ps9 ++ [(labL k, .slice none 0 0)])) := Lib.hid (HKd.out.grown HOd.out h7)
            have HW10 : Hid (Below w1.heap.size w1 w10) := Lib.hid (HWd.out.trans h6)
            clear h5 h6 h7)
          exact ⟨⟨k + 1, ps9 ++ [(labL k, .slice none 0 0)], by have := HKB.out; omega, by have := HKB.out; omega, by go_num, Lib.hid ⟨by rw [List.map_append, HP9.out.1]; show _ = _ ++ (if k < L then _ else _); rw [if_pos HKB.out.2.2]; rfl, by rw [List.length_append, HP9.out.2, HP.out.2]; have := HKB.out; simp; omega⟩, Lib.hid (by rw [List.length_append]; exact HO10.out), HK10, HW10⟩, by have := HKB.out; simp [intOf]; omega⟩
        · have kl : ¬ ((k : Int) < L) := by omega
          have HKB : Hid (k < n ∧ k < 2000 ∧ ¬ k < L) := Lib.hid ⟨HKN.out.1, HKN.out.2, hkl⟩
          clear hlen9 hkl
          go_wp2
          exact ⟨⟨k + 1, ps9, by have := HKB.out; omega, by have := HKB.out; omega, by go_num, Lib.hid ⟨by rw [HP9.out.1]; show _ = _ ++ (if k < L then _ else _); rw [if_neg HKB.out.2.2, List.append_nil], by rw [HP9.out.2, HP.out.2]; have := HKB.out; omega⟩, HO9, HK9, HW9⟩, by have := HKB.out; simp [intOf]; omega⟩
    · have hke : k = min n 2000 := by omega
      have HKE := Lib.hid hke
      clear hke
      by_cases hkn2 : k < n
      · have ki : (k : Int) < n := by omega
        have k20 : ¬ ((k : Int) < 2000) := by omega
        clear hkn hkn2 hk hk2
        go_upto_region 20 with (fail)
        go_loopw [5, 11] (fun o i wr => ∃ (j : Nat) (ps : List (PL × Value)), n ≤ j ∧ (j ≤ L ∨ j = n) ∧ i = .int .i64 j ∧ Hid (ps.map (·.1) = endL (midL L ns k) n (j - n) ∧ ps.length = k + min k L + (j - n)) ∧ Hid (wr.ownsRow w1.heap.size 39 7 o ps.length (flatL ps)) ∧ Hid (listsK wr ps) ∧ Hid (Below w1.heap.size w1 wr)) (fun _ i _ => L - (intOf i).toNat)
        case atStart => exact ⟨n, ps, Nat.le_refl _, .inr rfl, rfl, Lib.hid ⟨by rw [HP.out.1, Nat.sub_self]; rfl, by rw [HP.out.2, Nat.sub_self]; rfl⟩, HO, HK, HW⟩
        case round =>
          have HKL9 : Hid (k + min k L ≤ 2050) := Lib.hid (by have := HKE.out; have := HL.out; omega)
          clear HP HO HK HW
          obtain ⟨j, ps, hj1, hj2, rfl, HP, HO, HK, HW⟩ := hrel
          have j0 : (0 : Int) ≤ j := by omega
          by_cases hjl : j < L
          · have jl : (j : Int) < L := by omega
            have HOd : Hid ((wr.alloc (.cells #[.int .i64 0, .int .i64 0, .int .i64 0, .int .i64 0, .int .u32 0, .int .i64 (j : Int), .slice none 0 0] 39)).ownsRow w1.heap.size 39 7 u5 ps.length (flatL ps)) := Lib.hid (own_below17 HO.out (below_one wr _))
            have HSd : Hid (w1.heap.size ≤ (wr.alloc (.cells #[.int .i64 0, .int .i64 0, .int .i64 0, .int .i64 0, .int .u32 0, .int .i64 (j : Int), .slice none 0 0] 39)).heap.size) := Lib.hid (Nat.le_trans HW.out.size (below_one wr _).size)
            have HKd : Hid (listsK (wr.alloc (.cells #[.int .i64 0, .int .i64 0, .int .i64 0, .int .i64 0, .int .u32 0, .int .i64 (j : Int), .slice none 0 0] 39)) (ps ++ [(labL j, .slice none 0 0)])) := Lib.hid ((HK.out.below (below_one wr _)).app (.inl ⟨rfl, rfl⟩))
            have HWd : Hid (Below w1.heap.size w1 (wr.alloc (.cells #[.int .i64 0, .int .i64 0, .int .i64 0, .int .i64 0, .int .u32 0, .int .i64 (j : Int), .slice none 0 0] 39))) := Lib.hid (bt HW.out (below_one wr _))
            have HNEd : Hid (∀ i u, (flatL [(labL j, .slice none 0 0)])[i]? = some u → (wr.alloc (.cells #[.int .i64 0, .int .i64 0, .int .i64 0, .int .i64 0, .int .u32 0, .int .i64 (j : Int), .slice none 0 0] 39)).cell? ((⟨wr.heap.size, 0, none⟩ : Addr).add i) = some u) := Lib.hid (line_new wr (labL j, .slice none 0 0) _)
            have HKL2 : Hid (ListK wr (labL j, .slice none 0 0)) := Lib.hid (.inl ⟨rfl, rfl⟩)
            have HONd : Hid (∀ u ∈ flatL [(labL j, .slice none 0 0)], u.oneCell' = true) := Lib.hid (ListsAt.one (w := wr) (fun q hq => by rw [List.mem_singleton.1 hq]; exact HKL2.out.ints))
            have HJL : Hid (n ≤ j ∧ j < L) := Lib.hid ⟨hj1, hjl⟩
            clear hjl hj1 hj2
            go_wp2_with (
              at_builtin
              go_loud (refine wpList_append_lines ?d1 (.tmp 104) (.tmp 107) ?d2 w1.heap.size u5 ps.length ps [(labL j, .slice none 0 0)] ?d3 HOd.out ⟨wr.heap.size, 0, none⟩ 1 1 ?d4 rfl HNEd.out HONd.out (by have := HP.out.2; have := HJL.out; have := HKL9.out; have := HL.out; omega) HSd.out ?d5)
              (case d1 => rfl)
              (case d2 => rfl)
              (case d3 => rfl)
              (case d4 => rfl)
              intro v10 w10 h5 h6 h7
              have HO10 := Lib.hid h5
              have HK10 : Hid (listsK w10 (ps ++ [(labL j, .slice none 0 0)])) := Lib.hid (HKd.out.grown HOd.out h7)
              have HW10 : Hid (Below w1.heap.size w1 w10) := Lib.hid (HWd.out.trans h6)
              clear h5 h6 h7)
            exact ⟨⟨j + 1, ps ++ [(labL j, .slice none 0 0)], by have := HJL.out; omega, .inl (by have := HJL.out; omega), by go_num, Lib.hid ⟨by rw [List.map_append, HP.out.1, show j + 1 - n = (j - n) + 1 by have := HJL.out; omega]; show _ = _ ++ [labL (n + (j - n))]; rw [show n + (j - n) = j by have := HJL.out; omega]; rfl, by rw [List.length_append, HP.out.2]; have := HJL.out; simp; omega⟩, Lib.hid (by rw [List.length_append]; exact HO10.out), HK10, HW10⟩, by have := HJL.out; simp [intOf]; omega⟩
          · have jl : ¬ ((j : Int) < L) := by omega
            have hall : ps.map (·.1) = allL L ns := by
              rw [HP.out.1]
              unfold allL
              rw [HNL.out, ← HKE.out, show j - n = L - n by omega]
            have hLR := lines_of_own HO.out rfl (listsK_at HK.out)
            rw [hall] at hLR
            obtain ⟨a, ha, hpl, hwl⟩ := all_asm L ns HL.out.1 HL.out.2
            have hlen := len_all L ns HL.out.2
            have hSm : SmL (allL L ns) := ⟨by rw [hlen]; have := HL.out; omega, fun x hx => by have := (ok_all L ns HL.out.1 HL.out.2 x hx).short; omega⟩
            have HA := Lib.hid (D.at_ ha u5 wr hLR hSm (HFW.out.below HW.out))
            have HLV := Lib.hid (fun (W : World) (hW : Below w1.heap.size w1 W) => live_any D W (HFW.out.below hW))
            obtain ⟨po, co, rfl⟩ := hLR.form
            rw [hpl] at HA
            rw [HNL.out] at hwl
            have hmin : min (n : Int) 2000 ≤ (a.words.length : Int) := by omega
            have HMIN := Lib.hid hmin
            clear ha hpl hwl hall hSm hLR hlen hmin hj1 hj2 hjl D
            generalize (allL L ns).length = M at *
            generalize a.words.length = Q at *
            generalize a.kinds.length = R at *
            obtain ⟨mn, hmn⟩ : ∃ mn, mn = min (n : Int) 2000 := ⟨_, rfl⟩
            go_wp2_with (first
              | (go_at_call 7
                 refine HA.out.mono ?_
                 rintro e w9 ⟨pw, cw, pk, ck, pp, cp, rfl, _, hb⟩
                 have HB9 : Hid (Below w1.heap.size w1 w9) := Lib.hid (bt HW.out hb)
                 have HX9 := Lib.hid (heap_alloc_new w9 (.cells #[.slice pw Q cw, .slice pk R ck, .slice pp M cp, .int .i64 a.rounds] 27))
                 clear hb)
              | (go_at_call 9
                 refine (HLV.out _ (bt HB9.out (below_one w9 _))).mono ?_
                 rintro e w10 ⟨rfl, hb10⟩
                 have hb := (hb10.block _ (Array.getElem?_eq_some_iff.1 HX9.out).1).trans HX9.out
                 have c0 := cell_of_block hb (k := 0) rfl
                 have c2 := cell_of_block hb (k := 2) rfl
                 have HB10 : Hid (Below w1.heap.size w1 w10) := Lib.hid (bt HB9.out (bt (below_one w9 _) hb10))
                 clear hb10 hb))
            all_goals
              go_ret
              have h1 := HMIN.out
              have h2 := HKE.out
              exact ⟨by rw [decide_eq_true (by omega)]; rfl, HB10.out⟩
      · have ki : ¬ ((k : Int) < n) := by omega
        clear hkn hkn2 hk hk2
        go_upto_region 20 with (fail)
        go_loopw [5, 11] (fun o i wr => ∃ (j : Nat) (ps : List (PL × Value)), n ≤ j ∧ (j ≤ L ∨ j = n) ∧ i = .int .i64 j ∧ Hid (ps.map (·.1) = endL (midL L ns k) n (j - n) ∧ ps.length = k + min k L + (j - n)) ∧ Hid (wr.ownsRow w1.heap.size 39 7 o ps.length (flatL ps)) ∧ Hid (listsK wr ps) ∧ Hid (Below w1.heap.size w1 wr)) (fun _ i _ => L - (intOf i).toNat)
        case atStart => exact ⟨n, ps, Nat.le_refl _, .inr rfl, rfl, Lib.hid ⟨by rw [HP.out.1, Nat.sub_self]; rfl, by rw [HP.out.2, Nat.sub_self]; rfl⟩, HO, HK, HW⟩
        case round =>
          have HKL9 : Hid (k + min k L ≤ 2050) := Lib.hid (by have := HKE.out; have := HL.out; omega)
          clear HP HO HK HW
          obtain ⟨j, ps, hj1, hj2, rfl, HP, HO, HK, HW⟩ := hrel
          have j0 : (0 : Int) ≤ j := by omega
          by_cases hjl : j < L
          · have jl : (j : Int) < L := by omega
            have HOd : Hid ((wr.alloc (.cells #[.int .i64 0, .int .i64 0, .int .i64 0, .int .i64 0, .int .u32 0, .int .i64 (j : Int), .slice none 0 0] 39)).ownsRow w1.heap.size 39 7 u5 ps.length (flatL ps)) := Lib.hid (own_below17 HO.out (below_one wr _))
            have HSd : Hid (w1.heap.size ≤ (wr.alloc (.cells #[.int .i64 0, .int .i64 0, .int .i64 0, .int .i64 0, .int .u32 0, .int .i64 (j : Int), .slice none 0 0] 39)).heap.size) := Lib.hid (Nat.le_trans HW.out.size (below_one wr _).size)
            have HKd : Hid (listsK (wr.alloc (.cells #[.int .i64 0, .int .i64 0, .int .i64 0, .int .i64 0, .int .u32 0, .int .i64 (j : Int), .slice none 0 0] 39)) (ps ++ [(labL j, .slice none 0 0)])) := Lib.hid ((HK.out.below (below_one wr _)).app (.inl ⟨rfl, rfl⟩))
            have HWd : Hid (Below w1.heap.size w1 (wr.alloc (.cells #[.int .i64 0, .int .i64 0, .int .i64 0, .int .i64 0, .int .u32 0, .int .i64 (j : Int), .slice none 0 0] 39))) := Lib.hid (bt HW.out (below_one wr _))
            have HNEd : Hid (∀ i u, (flatL [(labL j, .slice none 0 0)])[i]? = some u → (wr.alloc (.cells #[.int .i64 0, .int .i64 0, .int .i64 0, .int .i64 0, .int .u32 0, .int .i64 (j : Int), .slice none 0 0] 39)).cell? ((⟨wr.heap.size, 0, none⟩ : Addr).add i) = some u) := Lib.hid (line_new wr (labL j, .slice none 0 0) _)
            have HKL2 : Hid (ListK wr (labL j, .slice none 0 0)) := Lib.hid (.inl ⟨rfl, rfl⟩)
            have HONd : Hid (∀ u ∈ flatL [(labL j, .slice none 0 0)], u.oneCell' = true) := Lib.hid (ListsAt.one (w := wr) (fun q hq => by rw [List.mem_singleton.1 hq]; exact HKL2.out.ints))
            have HJL : Hid (n ≤ j ∧ j < L) := Lib.hid ⟨hj1, hjl⟩
            clear hjl hj1 hj2
            go_wp2_with (
              at_builtin
              go_loud (refine wpList_append_lines ?e1 (.tmp 104) (.tmp 107) ?e2 w1.heap.size u5 ps.length ps [(labL j, .slice none 0 0)] ?e3 HOd.out ⟨wr.heap.size, 0, none⟩ 1 1 ?e4 rfl HNEd.out HONd.out (by have := HP.out.2; have := HJL.out; have := HKL9.out; have := HL.out; omega) HSd.out ?e5)
              (case e1 => rfl)
              (case e2 => rfl)
              (case e3 => rfl)
              (case e4 => rfl)
              intro v10 w10 h5 h6 h7
              have HO10 := Lib.hid h5
              have HK10 : Hid (listsK w10 (ps ++ [(labL j, .slice none 0 0)])) := Lib.hid (HKd.out.grown HOd.out h7)
              have HW10 : Hid (Below w1.heap.size w1 w10) := Lib.hid (HWd.out.trans h6)
              clear h5 h6 h7)
            exact ⟨⟨j + 1, ps ++ [(labL j, .slice none 0 0)], by have := HJL.out; omega, .inl (by have := HJL.out; omega), by go_num, Lib.hid ⟨by rw [List.map_append, HP.out.1, show j + 1 - n = (j - n) + 1 by have := HJL.out; omega]; show _ = _ ++ [labL (n + (j - n))]; rw [show n + (j - n) = j by have := HJL.out; omega]; rfl, by rw [List.length_append, HP.out.2]; have := HJL.out; simp; omega⟩, Lib.hid (by rw [List.length_append]; exact HO10.out), HK10, HW10⟩, by have := HJL.out; simp [intOf]; omega⟩
          · have jl : ¬ ((j : Int) < L) := by omega
            have hall : ps.map (·.1) = allL L ns := by
              rw [HP.out.1]
              unfold allL
              rw [HNL.out, ← HKE.out, show j - n = L - n by omega]
            have hLR := lines_of_own HO.out rfl (listsK_at HK.out)
            rw [hall] at hLR
            obtain ⟨a, ha, hpl, hwl⟩ := all_asm L ns HL.out.1 HL.out.2
            have hlen := len_all L ns HL.out.2
            have hSm : SmL (allL L ns) := ⟨by rw [hlen]; have := HL.out; omega, fun x hx => by have := (ok_all L ns HL.out.1 HL.out.2 x hx).short; omega⟩
            have HA := Lib.hid (D.at_ ha u5 wr hLR hSm (HFW.out.below HW.out))
            have HLV := Lib.hid (fun (W : World) (hW : Below w1.heap.size w1 W) => live_any D W (HFW.out.below hW))
            obtain ⟨po, co, rfl⟩ := hLR.form
            rw [hpl] at HA
            rw [HNL.out] at hwl
            have hmin : min (n : Int) 2000 ≤ (a.words.length : Int) := by omega
            have HMIN := Lib.hid hmin
            clear ha hpl hwl hall hSm hLR hlen hmin hj1 hj2 hjl D
            generalize (allL L ns).length = M at *
            generalize a.words.length = Q at *
            generalize a.kinds.length = R at *
            obtain ⟨mn, hmn⟩ : ∃ mn, mn = min (n : Int) 2000 := ⟨_, rfl⟩
            go_wp2_with (first
              | (go_at_call 7
                 refine HA.out.mono ?_
                 rintro e w9 ⟨pw, cw, pk, ck, pp, cp, rfl, _, hb⟩
                 have HB9 : Hid (Below w1.heap.size w1 w9) := Lib.hid (bt HW.out hb)
                 have HX9 := Lib.hid (heap_alloc_new w9 (.cells #[.slice pw Q cw, .slice pk R ck, .slice pp M cp, .int .i64 a.rounds] 27))
                 clear hb)
              | (go_at_call 9
                 refine (HLV.out _ (bt HB9.out (below_one w9 _))).mono ?_
                 rintro e w10 ⟨rfl, hb10⟩
                 have hb := (hb10.block _ (Array.getElem?_eq_some_iff.1 HX9.out).1).trans HX9.out
                 have c0 := cell_of_block hb (k := 0) rfl
                 have c2 := cell_of_block hb (k := 2) rfl
                 have HB10 : Hid (Below w1.heap.size w1 w10) := Lib.hid (bt HB9.out (bt (below_one w9 _) hb10))
                 clear hb10 hb))
            all_goals
              go_ret
              have h1 := HMIN.out
              have h2 := HKE.out
              exact ⟨by rw [decide_eq_true (by omega)]; rfl, HB10.out⟩
end Go.Proofs.YtbbfjlheaaalkaaDoor.Relax
