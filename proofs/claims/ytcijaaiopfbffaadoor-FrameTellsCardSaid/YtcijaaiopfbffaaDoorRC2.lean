/- The document's Back. No condition. -/
import Derived.Test.YtcijaaiopfbffaaDoorRB2
namespace Go.Proofs.YtcijaaiopfbffaaDoor.Live
open Go.RowKit Go.Proofs.YtcijaaiopfbffaaDoor.Graph Go.Shelf

/-- What is needed ahead of an operation, given what is needed behind it. -/
def backB (x : PIns) (U : Nat → Bool) (k : Nat) : Bool := decide ((k : Int) ∈ usesI x) || (!(setsT x && decide (x.d = k)) && U k)
theorem BoRow.congr {w : World} {g n : Nat} {U V : Nat → Bool} (h : BoRow w g n U) (he : ∀ b, b < n → U b = V b) : BoRow w g n V := by
  obtain ⟨cs, h1, h2, h3⟩ := h
  exact ⟨cs, h1, h2, fun b hb => by rw [← he b hb]; exact h3 b hb⟩
/-- A list of numbers lies in no row of booleans. -/
theorem ints_set {w : World} {gb T : Nat} {U : Nat → Bool} {v : Value} {l : List Int} (hr : BoRow w gb T U) (h : IntsR w v l) (k : Nat) (b : Bool) : IntsR (w.setCell ⟨gb, k, none⟩ (.bool b)) v l := by
  rcases h with h | ⟨g, o, c, hv, h0, hc, hg, hP⟩
  · exact .inl h
  · have hne : g ≠ gb := by
      intro e
      subst e
      have h1 := hP 0 h0 (l[0]) (List.getElem?_eq_getElem h0)
      obtain ⟨cs, h2, h3, h4⟩ := hr
      by_cases ho : o < T
      · simp [World.cell?, h2, h4 o ho] at h1
      · have : cs[o]? = none := Array.getElem?_eq_none (by omega)
        simp [World.cell?, h2, this] at h1
    refine .inr ⟨g, o, c, hv, h0, hc, by rw [World.size_setCell]; exact hg, fun i hi x hx => ?_⟩
    have h5 : (w.setCell ⟨gb, k, none⟩ (.bool b)).heap[g]? = w.heap[g]? := heap_setCell_other w ⟨gb, k, none⟩ g _ hne
    have h6 := hP i hi x hx
    simp only [World.cell?, h5] at h6 ⊢
    exact h6
theorem sets_fit {m : Int} {x : PIns} (h : insFit m x = true) : (1 ≤ x.op ∧ x.op ≤ 32) ∧ (∀ t ∈ usesI x, 0 ≤ t ∧ t < m) ∧ ((setsT x = true ∧ setsI x = x.d ∧ 0 ≤ x.d ∧ x.d < m) ∨ (setsT x = false ∧ setsI x = -1)) := by
  unfold insFit at h
  simp only [Bool.and_eq_true, decide_eq_true_eq, List.all_eq_true] at h
  obtain ⟨⟨hop, h1⟩, h2⟩ := h
  refine ⟨hop, fun t ht => by have := h2 t ht; unfold belowB at this; simpa using this, ?_⟩
  cases hq : setsT x with
  | true =>
    rw [hq] at h1
    refine .inl ⟨rfl, ?_, by unfold belowB at h1; simpa using h1⟩
    unfold setsT at hq; unfold setsI kindI
    (repeat' split at hq) <;> (repeat' split) <;> first | rfl | omega | simp_all
  | false =>
    refine .inr ⟨rfl, ?_⟩
    unfold setsT at hq; unfold setsI kindI
    (repeat' split at hq) <;> (repeat' split) <;> simp_all <;> omega
set_option maxHeartbeats 8000000 in
set_option maxRecDepth 100000 in
theorem back_any (x : PIns) (va vr : Value) (w0 w : World) (h : InsL w0 va vr x) (hb : Below w0.heap.size w0 w) (T : Nat) (hT : T ≤ 8000) (hf : insFit T x = true) (hsz : x.args.length * 8 ≤ 140737488355328)
    (gb : Nat) (U : Nat → Bool) (hg : w0.heap.size ≤ gb) (hr : BoRow w gb T U) :
    Calls Tryd.prog 59 #[insV x va vr, .slice (some ⟨gb, 0, none⟩) T T] w fun e w' => e = .returned (.tuple #[]) ∧ BoRow w' gb T (backB x U) ∧ Turn gb gb w w' := by
  obtain ⟨hop, hu, hs⟩ := sets_fit hf
  obtain ⟨ap9, ac9, rfl⟩ := h.args.form
  obtain ⟨rp9, rc9, rfl⟩ := h.arrs.form
  have HST := Lib.hid (fun (W : World) (hW : Below w0.heap.size w0 W) => Graph.sets_any x _ _ W (h.below hW))
  have HUS := Lib.hid (fun (W : World) (hW : Below w0.heap.size w0 W) => usesI_any x _ _ W (h.below hW) hop hsz)
  unfold insV at HST HUS ⊢
  have HUF := Lib.hid hu
  have HTT := Lib.hid hT
  have HBX : Hid ((w.alloc (.cells #[.int .i64 x.op, .int .i64 x.d, .int .i64 x.a, .int .i64 x.b, .int .i64 x.f, .int .u32 x.n, .slice ap9 x.args.length ac9, .slice rp9 x.arrs.length rc9] 77)).heap[w.heap.size]? = some (.cells #[.int .i64 x.op, .int .i64 x.d, .int .i64 x.a, .int .i64 x.b, .int .i64 x.f, .int .u32 x.n, .slice ap9 x.args.length ac9, .slice rp9 x.arrs.length rc9] 77 (0, 0))) := Lib.hid (heap_new w _)
  have HB1 := Lib.hid (Graph.below_alloc w (.cells #[.int .i64 x.op, .int .i64 x.d, .int .i64 x.a, .int .i64 x.b, .int .i64 x.f, .int .u32 x.n, .slice ap9 x.args.length ac9, .slice rp9 x.arrs.length rc9] 77))
  have HB := Lib.hid hb
  have HG := Lib.hid hg
  have HR0 := Lib.hid hr
  have HLT := Lib.hid hr.lt
  have HDD := Lib.hid hs
  have HDE : Hid (∀ V : Nat → Bool, ∀ t : Nat, backB x V t = (decide ((t : Int) ∈ usesI x) || (!(setsT x && decide (x.d = t)) && V t))) := Lib.hid (fun _ _ => rfl)
  obtain ⟨dd, hdd⟩ : ∃ dd, dd = setsI x := ⟨_, rfl⟩
  rw [← hdd] at HST HDD
  clear h hb hT hf hsz hg hr hop hu hs hdd
  go_enter Tryd.func59, Tryd.ntmps59
  go_upto_region 1 with (fail)
  generalize w.alloc (.cells #[.int .i64 x.op, .int .i64 x.d, .int .i64 x.a, .int .i64 x.b, .int .i64 x.f, .int .u32 x.n, .slice ap9 x.args.length ac9, .slice rp9 x.arrs.length rc9] 77) = W1 at HBX HB1 ⊢
  have HTW : Hid (Turn gb gb w W1) := Lib.hid (Turn.of_below HB1.out)
  have HW1 : Hid (Below w0.heap.size w0 W1) := Lib.hid (below_then HB.out HB1.out)
  have HR1 : Hid (BoRow W1 gb T U) := Lib.hid (HR0.out.below HB1.out)
  have HCI : Hid (∀ W, Turn gb gb W1 W → W.cell? ⟨w.heap.size, 0, none⟩ = some (.int .i64 x.op) ∧ W.cell? ⟨w.heap.size, 1, none⟩ = some (.int .i64 x.d) ∧ W.cell? ⟨w.heap.size, 2, none⟩ = some (.int .i64 x.a) ∧ W.cell? ⟨w.heap.size, 3, none⟩ = some (.int .i64 x.b) ∧ W.cell? ⟨w.heap.size, 4, none⟩ = some (.int .i64 x.f) ∧ W.cell? ⟨w.heap.size, 5, none⟩ = some (.int .u32 x.n) ∧ W.cell? ⟨w.heap.size, 6, none⟩ = some (.slice ap9 x.args.length ac9) ∧ W.cell? ⟨w.heap.size, 7, none⟩ = some (.slice rp9 x.arrs.length rc9)) := Lib.hid (fun W hW => by
    have hne : w.heap.size ≠ gb := by have := HLT.out; omega
    have hb := (hW.block _ (Array.getElem?_eq_some_iff.1 HBX.out).1 hne hne).trans HBX.out
    exact ⟨(cell_of_block hb (k := 0) rfl).1, (cell_of_block hb (k := 1) rfl).1, (cell_of_block hb (k := 2) rfl).1, (cell_of_block hb (k := 3) rfl).1, (cell_of_block hb (k := 4) rfl).1, (cell_of_block hb (k := 5) rfl).1, (cell_of_block hb (k := 6) rfl).1, (cell_of_block hb (k := 7) rfl).1⟩)
  obtain ⟨d0, d1, d2, d3, d4, d5, d6, d7⟩ := HCI.out W1 (Turn.refl _ _ _)
  rcases HDD.out with ⟨hst, hd1, hd2, hd3⟩ | ⟨hst, hd1⟩
  · obtain ⟨j, hj⟩ := Int.eq_ofNat_of_zero_le hd2
    have hdj : dd = (j : Int) := hd1.trans hj
    have hjT : j < T := by omega
    have j0 : (0 : Int) ≤ j := by omega
    have j1 : (j : Int) < T := by omega
    have j3 : (j : Int) ≤ 9223372036854775807 := by have := HTT.out; omega
    have HST2 : Hid (setsT x = true ∧ x.d = (j : Int)) := Lib.hid ⟨hst, hj⟩
    subst hdj
    clear hst hd1 hd2 hd3 hj HDD
    go_upto_if 10 with (
      go_at_call 36
      refine (HST.out _ HW1.out).mono ?_
      rintro e w5 ⟨rfl, hb5⟩
      have HW5 : Hid (Below w0.heap.size w0 w5) := Lib.hid (below_then HW1.out hb5)
      have HR5 : Hid (BoRow w5 gb T U) := Lib.hid (HR1.out.below hb5)
      have HT5 : Hid (Turn gb gb W1 w5) := Lib.hid (Turn.of_below hb5)
      clear hb5)
    clear d0 d1 d2 d3 d4 d5 d6 d7
    have hcell0 := HR5.out.cell hjT
    have hfr0 := HR5.out.frozen j
    obtain ⟨U1, hU1⟩ : ∃ U1 : Nat → Bool, U1 = fun k => if k = j then false else U k := ⟨_, rfl⟩
    have HU1 := Lib.hid hU1
    have HR6 : Hid (BoRow (w5.setCell ⟨gb, j, none⟩ (.bool false)) gb T U1) := Lib.hid (by rw [hU1]; exact HR5.out.set false)
    clear hU1
    have HW6 : Hid (Below w0.heap.size w0 (w5.setCell ⟨gb, j, none⟩ (.bool false))) := Lib.hid (below_set HW5.out HG.out)
    have HT6 : Hid (Turn gb gb W1 (w5.setCell ⟨gb, j, none⟩ (.bool false))) := Lib.hid (HT5.out.trans (Turn.setL gb gb j w5 _))
    obtain ⟨d0, d1, d2, d3, d4, d5, d6, d7⟩ := HCI.out _ HT6.out
    go_upto_region 4 with (fail)
    generalize w5.setCell ⟨gb, j, none⟩ (.bool false) = w6 at *
    clear hcell0 hfr0 hjT
    go_wp2_with (
      go_at_call 35
      refine (HUS.out _ HW6.out).mono ?_
      rintro e w7 ⟨p7, n7, c7, rfl, hi7, hb7⟩
      have hn7 : n7 = (usesI x).length := by obtain ⟨p, c, e⟩ := hi7.form; injection e
      have HI7 := Lib.hid hi7
      have HR7 : Hid (BoRow w7 gb T U1) := Lib.hid (HR6.out.below hb7)
      have HT7 : Hid (Turn gb gb W1 w7) := Lib.hid (HT6.out.trans (Turn.of_below hb7))
      have HN7 := Lib.hid hn7
      clear hi7 hb7 hn7)
    go_loopw [6] (fun i wr => ∃ k : Nat, k ≤ n7 ∧ i = .int .i64 k ∧ Hid (BoRow wr gb T (fun t => decide ((t : Int) ∈ (usesI x).take k) || U1 t)) ∧ Hid (IntsR wr (.slice p7 n7 c7) (usesI x)) ∧ Hid (Turn gb gb W1 wr)) (fun i _ => n7 - (intOf i).toNat)
    case atStart => exact ⟨0, Nat.zero_le _, rfl, Lib.hid (HR7.out.congr fun t _ => by simp), HI7, HT7⟩
    case round =>
      obtain ⟨k, hk, rfl, HR, HI, HT⟩ := hrel
      by_cases hkn : k < n7
      · obtain ⟨t0, ht0⟩ : ∃ t0, (usesI x)[k]? = some t0 := ⟨_, List.getElem?_eq_getElem (by have := HN7.out; omega)⟩
        obtain ⟨g, o, c', hv, hc, hg, hc1, hc2⟩ := ints_cell HI.out ht0
        rw [← HN7.out] at hv hc1
        injection hv with e1 e2 e3
        clear e2
        subst e1 e3
        obtain ⟨t1, t2⟩ := HUF.out t0 (List.mem_of_getElem? ht0)
        obtain ⟨jj, rfl⟩ := Int.eq_ofNat_of_zero_le t1
        have hj : jj < T := by omega
        have ki : (k : Int) < n7 := by omega
        have k0 : (0 : Int) ≤ k := by omega
        have k2 : (n7 : Int) ≤ c7 := by omega
        have k3 : (c7 : Int) ≤ 9223372036854775807 := by omega
        have jj0 : (0 : Int) ≤ jj := by omega
        have jj1 : (jj : Int) < T := by omega
        have jj3 : (jj : Int) ≤ 9223372036854775807 := by have := HTT.out; omega
        have hcell := HR.out.cell hj
        have hfr := HR.out.frozen jj
        have HR2 : Hid (BoRow (wr.setCell ⟨gb, jj, none⟩ (.bool true)) gb T (fun t => decide ((t : Int) ∈ (usesI x).take (k + 1)) || U1 t)) := Lib.hid ((HR.out.set true).congr fun t _ => by
          have ht : (usesI x).take (k + 1) = (usesI x).take k ++ [(jj : Int)] := by rw [List.take_add_one, ht0]; rfl
          rw [ht]
          by_cases e : t = jj
          · subst e; simp
          · have : ¬ ((t : Int) = (jj : Int)) := by omega
            rw [if_neg e]; simp [this])
        have HI2 : Hid (IntsR (wr.setCell ⟨gb, jj, none⟩ (.bool true)) (.slice (some ⟨g, o, none⟩) n7 c7) (usesI x)) := Lib.hid (ints_set HR.out HI.out jj true)
        have HT2 : Hid (Turn gb gb W1 (wr.setCell ⟨gb, jj, none⟩ (.bool true))) := Lib.hid (HT.out.trans (Turn.setL gb gb jj wr _))
        clear ht0 hg hc1 hc2 t1 t2 hj HR HI HT
        go_wp2
        exact ⟨⟨k + 1, by omega, by go_num, HR2, HI2, HT2⟩, by simp [intOf]; omega⟩
      · have hkn2 : k = n7 := by omega
        have ki : ¬ ((k : Int) < n7) := by omega
        go_wp2
        go_end0
        refine ⟨rfl, HR.out.congr fun t _ => ?_, HTW.out.trans HT.out⟩
        rw [hkn2, HN7.out, List.take_length]
        show _ = backB x U t
        rw [HDE.out]
        obtain ⟨s1, s2⟩ := HST2.out
        rw [s1, s2, HU1.out]
        by_cases e : t = j
        · subst e; simp
        · have : ¬ ((j : Int) = (t : Int)) := by omega
          simp [e, this]
  · have hneg : dd < 0 := by omega
    have HST2 : Hid (setsT x = false) := Lib.hid hst
    clear hst hd1 HDD
    go_upto_region 4 with (
      go_at_call 36
      refine (HST.out _ HW1.out).mono ?_
      rintro e w6 ⟨rfl, hb5⟩
      have HW6 : Hid (Below w0.heap.size w0 w6) := Lib.hid (below_then HW1.out hb5)
      have HR6 : Hid (BoRow w6 gb T U) := Lib.hid (HR1.out.below hb5)
      have HT6 : Hid (Turn gb gb W1 w6) := Lib.hid (Turn.of_below hb5)
      clear hb5)
    clear d0 d1 d2 d3 d4 d5 d6 d7
    obtain ⟨d0, d1, d2, d3, d4, d5, d6, d7⟩ := HCI.out _ HT6.out
    go_wp2_with (
      go_at_call 35
      refine (HUS.out _ HW6.out).mono ?_
      rintro e w7 ⟨p7, n7, c7, rfl, hi7, hb7⟩
      have hn7 : n7 = (usesI x).length := by obtain ⟨p, c, e⟩ := hi7.form; injection e
      have HI7 := Lib.hid hi7
      have HR7 : Hid (BoRow w7 gb T U) := Lib.hid (HR6.out.below hb7)
      have HT7 : Hid (Turn gb gb W1 w7) := Lib.hid (HT6.out.trans (Turn.of_below hb7))
      have HN7 := Lib.hid hn7
      clear hi7 hb7 hn7)
    go_loopw [6] (fun i wr => ∃ k : Nat, k ≤ n7 ∧ i = .int .i64 k ∧ Hid (BoRow wr gb T (fun t => decide ((t : Int) ∈ (usesI x).take k) || U t)) ∧ Hid (IntsR wr (.slice p7 n7 c7) (usesI x)) ∧ Hid (Turn gb gb W1 wr)) (fun i _ => n7 - (intOf i).toNat)
    case atStart => exact ⟨0, Nat.zero_le _, rfl, Lib.hid (HR7.out.congr fun t _ => by simp), HI7, HT7⟩
    case round =>
      obtain ⟨k, hk, rfl, HR, HI, HT⟩ := hrel
      by_cases hkn : k < n7
      · obtain ⟨t0, ht0⟩ : ∃ t0, (usesI x)[k]? = some t0 := ⟨_, List.getElem?_eq_getElem (by have := HN7.out; omega)⟩
        obtain ⟨g, o, c', hv, hc, hg, hc1, hc2⟩ := ints_cell HI.out ht0
        rw [← HN7.out] at hv hc1
        injection hv with e1 e2 e3
        clear e2
        subst e1 e3
        obtain ⟨t1, t2⟩ := HUF.out t0 (List.mem_of_getElem? ht0)
        obtain ⟨jj, rfl⟩ := Int.eq_ofNat_of_zero_le t1
        have hj : jj < T := by omega
        have ki : (k : Int) < n7 := by omega
        have k0 : (0 : Int) ≤ k := by omega
        have k2 : (n7 : Int) ≤ c7 := by omega
        have k3 : (c7 : Int) ≤ 9223372036854775807 := by omega
        have jj0 : (0 : Int) ≤ jj := by omega
        have jj1 : (jj : Int) < T := by omega
        have jj3 : (jj : Int) ≤ 9223372036854775807 := by have := HTT.out; omega
        have hcell := HR.out.cell hj
        have hfr := HR.out.frozen jj
        have HR2 : Hid (BoRow (wr.setCell ⟨gb, jj, none⟩ (.bool true)) gb T (fun t => decide ((t : Int) ∈ (usesI x).take (k + 1)) || U t)) := Lib.hid ((HR.out.set true).congr fun t _ => by
          have ht : (usesI x).take (k + 1) = (usesI x).take k ++ [(jj : Int)] := by rw [List.take_add_one, ht0]; rfl
          rw [ht]
          by_cases e : t = jj
          · subst e; simp
          · have : ¬ ((t : Int) = (jj : Int)) := by omega
            rw [if_neg e]; simp [this])
        have HI2 : Hid (IntsR (wr.setCell ⟨gb, jj, none⟩ (.bool true)) (.slice (some ⟨g, o, none⟩) n7 c7) (usesI x)) := Lib.hid (ints_set HR.out HI.out jj true)
        have HT2 : Hid (Turn gb gb W1 (wr.setCell ⟨gb, jj, none⟩ (.bool true))) := Lib.hid (HT.out.trans (Turn.setL gb gb jj wr _))
        clear ht0 hg hc1 hc2 t1 t2 hj HR HI HT
        go_wp2
        exact ⟨⟨k + 1, by omega, by go_num, HR2, HI2, HT2⟩, by simp [intOf]; omega⟩
      · have hkn2 : k = n7 := by omega
        have ki : ¬ ((k : Int) < n7) := by omega
        go_wp2
        go_end0
        refine ⟨rfl, HR.out.congr fun t _ => ?_, HTW.out.trans HT.out⟩
        rw [hkn2, HN7.out, List.take_length]
        show _ = backB x U t
        rw [HDE.out, HST2.out]
        simp
end Go.Proofs.YtcijaaiopfbffaaDoor.Live
namespace Go.Proofs.YtcijaaiopfbffaaDoor.Live
open Go.RowKit Go.Proofs.YtcijaaiopfbffaaDoor.Graph Go.Shelf

/-- What is needed at each block's beginning, as it lies: a row of rows of booleans. -/
def AtR (w : World) (v : Value) (n T : Nat) (A : Nat → Nat → Bool) : Prop :=
  ∃ ab c, v = .slice (some ⟨ab, 0, none⟩) n c ∧ n ≤ c ∧ c ≤ 9223372036854775807 ∧ ab < w.heap.size ∧ ∀ b, b < n → ∃ gb, w.cell? ⟨ab, b, none⟩ = some (.slice (some ⟨gb, 0, none⟩) T T) ∧ BoRow w gb T (A b)
theorem AtR.below {w w' : World} {v : Value} {n T : Nat} {A : Nat → Nat → Bool} (h : AtR w v n T A) (hb : Below w.heap.size w w') : AtR w' v n T A := by
  obtain ⟨ab, c, hv, h1, h2, h3, h4⟩ := h
  refine ⟨ab, c, hv, h1, h2, Nat.lt_of_lt_of_le h3 hb.size, fun b hbn => ?_⟩
  obtain ⟨gb, h5, h6⟩ := h4 b hbn
  exact ⟨gb, (cell_below hb h3 _).trans h5, h6.below hb⟩
def endB (e : PEnd) (A : Nat → Nat → Bool) (t : Nat) : Bool := (namedN e).any (fun c => A c.toNat t) || decide ((t : Int) ∈ usesE e)
set_option maxHeartbeats 8000000 in
set_option maxRecDepth 100000 in
theorem endOf_any (x : PGr) (vp va vb : Value) (w : World) (h : GrL w vp va vb x) (hs : SmG x) (T : Nat) (hT : x.temps = T) (hf : fitsB x = true) (b : Nat) (blk : PBlk) (hb : x.blocks[b]? = some blk) (v : Value) (A : Nat → Nat → Bool) (hA : AtR w v x.blocks.length T A) :
    Calls Tryd.prog 58 #[grV x vp va vb, .int .i64 b, v] w fun e w' => ∃ gn, e = .returned (.slice (some ⟨gn, 0, none⟩) T T) ∧ w.heap.size ≤ gn ∧ BoRow w' gn T (endB blk.fin A) ∧ Below w.heap.size w w' := by
  obtain ⟨hfb, hfn⟩ := fits_blk hf hb
  obtain ⟨hn1, hn2, ht1, ht2⟩ : 1 ≤ x.blocks.length ∧ x.blocks.length ≤ 20000 ∧ 0 ≤ x.temps ∧ x.temps ≤ 8000 := by
    unfold fitsB at hf
    rw [Bool.and_eq_true, decide_eq_true_eq] at hf
    exact hf.1
  have hef : endFit x.temps blk.fin = true := by
    unfold blkFit at hfb
    rw [Bool.and_eq_true] at hfb
    exact hfb.2
  have hek : (1 ≤ blk.fin.kind ∧ blk.fin.kind ≤ 5) ∧ ∀ t ∈ usesE blk.fin, 0 ≤ t ∧ t < T := by
    unfold endFit at hef
    simp only [Bool.and_eq_true, decide_eq_true_eq, List.all_eq_true] at hef
    exact ⟨hef.1, fun t ht => by have := hef.2 t ht; unfold belowB at this; rw [hT] at this; simpa using this⟩
  have HLM : Hid (∀ s, s ∈ nextL x (b : Int) ↔ s ∈ namedN blk.fin) := Lib.hid (next_mem hb)
  have HLB : Hid (∀ s ∈ nextL x (b : Int), 0 ≤ s ∧ s < x.blocks.length) := Lib.hid (fun s hs => by
    have := List.all_eq_true.1 hfn s ((next_mem hb s).1 hs)
    unfold belowB at this; simpa using this)
  obtain ⟨pp, pc, rfl⟩ := h.params.form
  obtain ⟨ap, ac, rfl⟩ := h.arrays.form
  have hbk := h.blocks
  obtain ⟨bp, bc, rfl⟩ := h.blocks.form
  have HNK := Lib.hid (fun (W : World) (hW : Below w.heap.size w W) => rnext_any x _ _ _ (b : Int) W (h.below hW) hs)
  unfold grV at HNK ⊢
  generalize nextL x (b : Int) = LL at HLM HLB HNK
  obtain ⟨n, hn⟩ : ∃ n, n = x.blocks.length := ⟨_, rfl⟩
  have hbn : b < n := by have := (List.getElem?_eq_some_iff.1 hb).1; omega
  obtain ⟨g, o, cap, hv, hcap, hgl, _⟩ := SlR.form2 hbk (by omega)
  injection hv with e1 e2 e3
  clear e2
  subst e1 e3
  obtain ⟨pk, ck, pz, cc, pt, ct, ⟨c0w, c1w, c2w, c3w, c4w, c5w, c6w, c7w, c8w, c9w⟩, hck, hel, hg9⟩ := blk_at hbk (Below.refl _ w) hb
  have HCE : Hid (∀ W, Below w.heap.size w W → W.cell? ⟨g, o + b * 10 + 1, none⟩ = some (.int .i64 blk.fin.kind) ∧ W.cell? ⟨g, o + b * 10 + 2, none⟩ = some (.int .i64 blk.fin.op) ∧ W.cell? ⟨g, o + b * 10 + 3, none⟩ = some (.int .i64 blk.fin.a) ∧ W.cell? ⟨g, o + b * 10 + 4, none⟩ = some (.int .i64 blk.fin.b) ∧ W.cell? ⟨g, o + b * 10 + 5, none⟩ = some (.int .u32 blk.fin.n) ∧ W.cell? ⟨g, o + b * 10 + 6, none⟩ = some (.int .i64 blk.fin.to) ∧ W.cell? ⟨g, o + b * 10 + 7, none⟩ = some (.int .i64 blk.fin.els) ∧ W.cell? ⟨g, o + b * 10 + 8, none⟩ = some (.slice pz blk.fin.cases.length cc) ∧ W.cell? ⟨g, o + b * 10 + 9, none⟩ = some (.slice pt blk.fin.targets.length ct)) := Lib.hid (fun W hw =>
    ⟨(cell_below hw hg9 _).trans c1w, (cell_below hw hg9 _).trans c2w, (cell_below hw hg9 _).trans c3w, (cell_below hw hg9 _).trans c4w, (cell_below hw hg9 _).trans c5w, (cell_below hw hg9 _).trans c6w, (cell_below hw hg9 _).trans c7w, (cell_below hw hg9 _).trans c8w, (cell_below hw hg9 _).trans c9w⟩)
  have HEU : Hid (∀ W : World, Calls Tryd.prog 37 #[.agg #[.int .i64 blk.fin.kind, .int .i64 blk.fin.op, .int .i64 blk.fin.a, .int .i64 blk.fin.b, .int .u32 blk.fin.n, .int .i64 blk.fin.to, .int .i64 blk.fin.els, .slice pz blk.fin.cases.length cc, .slice pt blk.fin.targets.length ct]] W (RetI (usesE blk.fin) W)) := Lib.hid (fun W => by rw [← endUses_same hek.1]; exact endUses_any blk.fin pz pt blk.fin.cases.length cc blk.fin.targets.length ct W)
  rw [← hn] at HNK HLB hA ⊢
  rw [hT] at HNK ⊢
  have b1 : (b : Int) < n := by omega
  have b0 : (0 : Int) ≤ b := by omega
  have b2 : (n : Int) ≤ bc := by have := hcap.1; omega
  have b3 : (bc : Int) ≤ 9223372036854775807 := by have := hcap.2; omega
  have HAW := Lib.hid (fun (W : World) (hW : Below w.heap.size w W) => hA.below hW)
  obtain ⟨ab, av, rfl, ha1, ha2, ha3, _⟩ := hA
  have a1 : (n : Int) ≤ av := by omega
  have a2 : (av : Int) ≤ 9223372036854775807 := by omega
  have t0 : (0 : Int) ≤ T := by omega
  have HT2 : Hid (T ≤ 20000 ∧ T ≤ 8000) := Lib.hid ⟨by omega, by omega⟩
  have HUF := Lib.hid hek.2
  have HN : Hid (n ≤ 20000) := Lib.hid (by omega)
  have HX1 : Hid ((w.alloc (.cells #[.slice pp x.params.length pc, .int .i64 (T : Int), .slice ap x.arrays.length ac, .slice (some ⟨g, o, none⟩) n bc] 26)).heap[w.heap.size]? = some (.cells #[.slice pp x.params.length pc, .int .i64 (T : Int), .slice ap x.arrays.length ac, .slice (some ⟨g, o, none⟩) n bc] 26 (0, 0))) := Lib.hid (heap_new w _)
  have HB1 := Lib.hid (Graph.below_alloc w (.cells #[.slice pp x.params.length pc, .int .i64 (T : Int), .slice ap x.arrays.length ac, .slice (some ⟨g, o, none⟩) n bc] 26))
  clear h hs hT hf hb hfb hfn hn1 hn2 ht1 ht2 hef hek hbk hn hcap hgl hck hel hg9 c0w c1w c2w c3w c4w c5w c6w c7w c8w c9w ha1 ha2 hbn
  go_enter Tryd.func58, Tryd.ntmps58
  go_upto_region 1 with (fail)
  generalize w.alloc (.cells #[.slice pp x.params.length pc, .int .i64 (T : Int), .slice ap x.arrays.length ac, .slice (some ⟨g, o, none⟩) n bc] 26) = W1 at HX1 HB1 ⊢
  have HBX : Hid (∀ W, Below W1.heap.size W1 W → W.cell? ⟨w.heap.size, 0, none⟩ = some (.slice pp x.params.length pc) ∧ W.cell? ⟨w.heap.size, 1, none⟩ = some (.int .i64 (T : Int)) ∧ W.cell? ⟨w.heap.size, 2, none⟩ = some (.slice ap x.arrays.length ac) ∧ W.cell? ⟨w.heap.size, 3, none⟩ = some (.slice (some ⟨g, o, none⟩) n bc)) := Lib.hid (fun W hW => by
    have hb := (hW.block _ (Array.getElem?_eq_some_iff.1 HX1.out).1).trans HX1.out
    exact ⟨(cell_of_block hb (k := 0) rfl).1, (cell_of_block hb (k := 1) rfl).1, (cell_of_block hb (k := 2) rfl).1, (cell_of_block hb (k := 3) rfl).1⟩)
  obtain ⟨y0, y1, y2, y3⟩ := HBX.out W1 (Below.refl _ _)
  have hml := make_bools T HT2.out.1 W1
  have HR0 : Hid (BoRow (W1.alloc (.cells (madeCells #[.bool false] T) 4)) W1.heap.size T fun _ => false) := Lib.hid (made_bools (heap_new W1 _))
  have HB2 : Hid (Below W1.heap.size W1 (W1.alloc (.cells (madeCells #[.bool false] T) 4))) := Lib.hid (Graph.below_alloc W1 _)
  go_upto_region 2 with (fail)
  generalize W1.alloc (.cells (madeCells #[.bool false] T) 4) = W2 at HR0 HB2 ⊢
  clear y0 y1 y2 y3 hml
  obtain ⟨y0, y1, y2, y3⟩ := HBX.out W2 HB2.out
  obtain ⟨m, hm⟩ : ∃ m, m = LL.length := ⟨_, rfl⟩
  have HM := Lib.hid hm
  clear hm
  go_wp2_with (
    go_at_call 15
    refine (HNK.out _ (below_then HB1.out HB2.out)).mono ?_
    rintro e w3 ⟨v3, rfl, h3, hb3⟩
    have HI3 := Lib.hid (ints_of_own h3)
    rw [← HM.out] at h3
    obtain ⟨p3, c3, rfl, hm3⟩ := own_form h3
    have HB3 : Hid (Below W1.heap.size W1 w3) := Lib.hid (below_then HB2.out hb3)
    have HR3 : Hid (BoRow w3 W1.heap.size T fun _ => false) := Lib.hid (HR0.out.below hb3)
    have C3 := Lib.hid (And.intro hm3 trivial)
    clear h3 hb3)
  clear y0 y1 y2 y3
  go_loopw [9] (fun i wr => ∃ k : Nat, k ≤ m ∧ i = .int .i64 k ∧ Hid (BoRow wr W1.heap.size T (fun t => (LL.take k).any (fun c => A c.toNat t))) ∧ Hid (IntsR wr (.slice p3 m c3) LL) ∧ Hid (Below W1.heap.size W1 wr)) (fun i _ => m - (intOf i).toNat)
  case atStart => exact ⟨0, Nat.zero_le _, rfl, Lib.hid (HR3.out.congr fun t _ => by simp), HI3, HB3⟩
  case round =>
    obtain ⟨k, hk, rfl, HR, HI, HW⟩ := hrel
    obtain ⟨y0, y1, y2, y3⟩ := HBX.out wr HW.out
    by_cases hkm : k < m
    · have ki : (k : Int) < m := by omega
      have k0 : (0 : Int) ≤ k := by omega
      obtain ⟨s, hs⟩ : ∃ s, LL[k]? = some s := ⟨_, List.getElem?_eq_getElem (by have := HM.out; omega)⟩
      obtain ⟨s1, s2⟩ := HLB.out s (List.mem_of_getElem? hs)
      obtain ⟨q, rfl⟩ := Int.eq_ofNat_of_zero_le s1
      have HS := Lib.hid hs
      have hqn : q < n := by omega
      obtain ⟨U0, hU0⟩ : ∃ U0 : Nat → Bool, U0 = fun t => (LL.take k).any (fun c => A c.toNat t) := ⟨_, rfl⟩
      have HU0 := Lib.hid hU0
      rw [← hU0] at HR
      clear hs s1 s2 hU0
      go_wp2
      clear y0 y1 y2 y3
      go_loopw [10] (fun i wq => ∃ j : Nat, j ≤ T ∧ i = .int .i64 j ∧ Hid (BoRow wq W1.heap.size T (fun t => U0 t || (decide (t < j) && A q t))) ∧ Hid (IntsR wq (.slice p3 m c3) LL) ∧ Hid (Below W1.heap.size W1 wq)) (fun i _ => T - (intOf i).toNat)
      case atStart => exact ⟨0, Nat.zero_le _, rfl, Lib.hid (HR.out.congr fun t _ => by simp), HI, HW⟩
      case round =>
        obtain ⟨j, hj, rfl, HR2, HI2, HW2⟩ := hrel
        obtain ⟨y0, y1, y2, y3⟩ := HBX.out wr HW2.out
        by_cases hjT : j < T
        · have ji : (j : Int) < T := by omega
          have j0 : (0 : Int) ≤ j := by omega
          have j3 : (T : Int) ≤ 9223372036854775807 := by have := HT2.out; omega
          obtain ⟨g4, o4, c4, hv4, hc4, _, hd1, hd2⟩ := ints_cell HI2.out HS.out
          rw [← HM.out] at hv4 hd1
          injection hv4 with e1 e2 e3
          clear e2
          subst e1 e3
          obtain ⟨ab', av', hv5, _, _, _, h4⟩ := HAW.out wr (below_then HB1.out HW2.out)
          injection hv5 with e4 e5 e6
          clear e5
          injection e4 with e4
          injection e4 with e4 e7 e8
          clear e7 e8
          subst e4 e6
          obtain ⟨gb, hcb, hrb⟩ := h4 q hqn
          have hcj := hrb.cell hjT
          have q0 : (0 : Int) ≤ q := by omega
          have q1 : (q : Int) < n := by omega
          have k2 : (m : Int) ≤ c3 := by omega
          have k3 : (c3 : Int) ≤ 9223372036854775807 := by omega
          have hcell := HR2.out.cell hjT
          have hfr := HR2.out.frozen j
          clear hd1 hd2 h4 hrb
          cases hq : A q j with
          | true =>
            rw [hq] at hcj
            have HQ : Hid (A q j = true) := Lib.hid hq
            have HR4 : Hid (BoRow (wr.setCell ⟨W1.heap.size, j, none⟩ (.bool true)) W1.heap.size T (fun t => U0 t || (decide (t < j + 1) && A q t))) := Lib.hid ((HR2.out.set true).congr fun t _ => by
              by_cases e : t = j
              · subst e; rw [if_pos rfl, HQ.out, decide_eq_true (show t < t + 1 by omega)]; simp
              · rw [if_neg e]
                by_cases h : t < j
                · rw [decide_eq_true h, decide_eq_true (show t < j + 1 by omega)]
                · rw [decide_eq_false h, decide_eq_false (show ¬ t < j + 1 by omega)])
            have HI4 : Hid (IntsR (wr.setCell ⟨W1.heap.size, j, none⟩ (.bool true)) (.slice (some ⟨g4, o4, none⟩) m c3) LL) := Lib.hid (ints_set HR2.out HI2.out j true)
            have HW4 : Hid (Below W1.heap.size W1 (wr.setCell ⟨W1.heap.size, j, none⟩ (.bool true))) := Lib.hid (below_set HW2.out (Nat.le_refl _))
            clear HR2 HI2 HW2 hq hjT
            go_wp2
            exact ⟨⟨j + 1, by omega, by go_num, HR4, HI4, HW4⟩, by simp [intOf]; omega⟩
          | false =>
            rw [hq] at hcj
            have HQ : Hid (A q j = false) := Lib.hid hq
            have HR4 : Hid (BoRow wr W1.heap.size T (fun t => U0 t || (decide (t < j + 1) && A q t))) := Lib.hid (HR2.out.congr fun t _ => by
              by_cases e : t = j
              · subst e; rw [HQ.out]; simp
              · by_cases h : t < j
                · rw [decide_eq_true h, decide_eq_true (show t < j + 1 by omega)]
                · rw [decide_eq_false h, decide_eq_false (show ¬ t < j + 1 by omega)])
            clear HR2 hq hjT
            go_wp2
            exact ⟨⟨j + 1, by omega, by go_num, HR4, HI2, HW2⟩, by simp [intOf]; omega⟩
        · have hjT2 : j = T := by omega
          have ji : ¬ ((j : Int) < T) := by omega
          have HR4 : Hid (BoRow wr W1.heap.size T (fun t => (LL.take (k + 1)).any (fun c => A c.toNat t))) := Lib.hid (HR2.out.congr fun t ht => by
            have h1 : LL.take (k + 1) = LL.take k ++ [(q : Int)] := by rw [List.take_add_one, HS.out]; rfl
            rw [h1, List.any_append, HU0.out, decide_eq_true (show t < j by omega)]
            simp)
          go_wp2
          exact ⟨⟨k + 1, by omega, by go_num, HR4, HI2, HW2⟩, by simp [intOf]; omega⟩
    · have hkm2 : k = m := by omega
      have ki : ¬ ((k : Int) < m) := by omega
      obtain ⟨U1, hU1⟩ : ∃ U1 : Nat → Bool, U1 = fun t => LL.any (fun c => A c.toNat t) := ⟨_, rfl⟩
      have HU1 := Lib.hid hU1
      have HR1 : Hid (BoRow wr W1.heap.size T U1) := Lib.hid (HR.out.congr fun t _ => by rw [hU1, hkm2, HM.out, List.take_length])
      obtain ⟨c1, c2, c3', c4, c5, c6, c7', c8, c9⟩ := HCE.out wr (below_then HB1.out HW.out)
      clear hU1 HR HI
      go_wp2_with (
        go_at_call 37
        refine (HEU.out _).mono ?_
        rintro e w7 ⟨p7, n7, c7, rfl, hi7, hb7⟩
        have hn7 : n7 = (usesE blk.fin).length := by obtain ⟨p, c, e⟩ := hi7.form; injection e
        have HI7 := Lib.hid hi7
        have HR7 : Hid (BoRow w7 W1.heap.size T U1) := Lib.hid (HR1.out.below hb7)
        have HW7 : Hid (Below W1.heap.size W1 w7) := Lib.hid (below_then HW.out hb7)
        have HN7 := Lib.hid hn7
        clear hi7 hb7 hn7)
      clear c1 c2 c3' c4 c5 c6 c7' c8 c9 y0 y1 y2 y3
      go_loopw [12] (fun i wr => ∃ k : Nat, k ≤ n7 ∧ i = .int .i64 k ∧ Hid (BoRow wr W1.heap.size T (fun t => decide ((t : Int) ∈ (usesE blk.fin).take k) || U1 t)) ∧ Hid (IntsR wr (.slice p7 n7 c7) (usesE blk.fin)) ∧ Hid (Below W1.heap.size W1 wr)) (fun i _ => n7 - (intOf i).toNat)
      case atStart => exact ⟨0, Nat.zero_le _, rfl, Lib.hid (HR7.out.congr fun t _ => by simp), HI7, HW7⟩
      case round =>
        obtain ⟨k, hk, rfl, HR, HI, HT⟩ := hrel
        by_cases hkn : k < n7
        · obtain ⟨t9, ht9⟩ : ∃ t9, (usesE blk.fin)[k]? = some t9 := ⟨_, List.getElem?_eq_getElem (by have := HN7.out; omega)⟩
          obtain ⟨g7, o7, c', hv, hc, hg, hc1, hc2⟩ := ints_cell HI.out ht9
          rw [← HN7.out] at hv hc1
          injection hv with e1 e2 e3
          clear e2
          subst e1 e3
          obtain ⟨t1, t2⟩ := HUF.out t9 (List.mem_of_getElem? ht9)
          obtain ⟨jj, rfl⟩ := Int.eq_ofNat_of_zero_le t1
          have hj : jj < T := by omega
          have ki9 : (k : Int) < n7 := by omega
          have k0 : (0 : Int) ≤ k := by omega
          have k2 : (n7 : Int) ≤ c7 := by omega
          have k3 : (c7 : Int) ≤ 9223372036854775807 := by omega
          have jj0 : (0 : Int) ≤ jj := by omega
          have jj1 : (jj : Int) < T := by omega
          have jj3 : (T : Int) ≤ 9223372036854775807 := by have := HT2.out; omega
          have hcell := HR.out.cell hj
          have hfr := HR.out.frozen jj
          have HR2 : Hid (BoRow (wr.setCell ⟨W1.heap.size, jj, none⟩ (.bool true)) W1.heap.size T (fun t => decide ((t : Int) ∈ (usesE blk.fin).take (k + 1)) || U1 t)) := Lib.hid ((HR.out.set true).congr fun t _ => by
            have ht : (usesE blk.fin).take (k + 1) = (usesE blk.fin).take k ++ [(jj : Int)] := by rw [List.take_add_one, ht9]; rfl
            rw [ht]
            by_cases e : t = jj
            · subst e; simp
            · have : ¬ ((t : Int) = (jj : Int)) := by omega
              rw [if_neg e]; simp [this])
          have HI2 : Hid (IntsR (wr.setCell ⟨W1.heap.size, jj, none⟩ (.bool true)) (.slice (some ⟨g7, o7, none⟩) n7 c7) (usesE blk.fin)) := Lib.hid (ints_set HR.out HI.out jj true)
          have HT4 : Hid (Below W1.heap.size W1 (wr.setCell ⟨W1.heap.size, jj, none⟩ (.bool true))) := Lib.hid (below_set HT.out (Nat.le_refl _))
          clear ht9 hg hc1 hc2 t1 t2 hj HR HI HT
          go_wp2
          exact ⟨⟨k + 1, by omega, by go_num, HR2, HI2, HT4⟩, by simp [intOf]; omega⟩
        · have hkn2 : k = n7 := by omega
          have ki9 : ¬ ((k : Int) < n7) := by omega
          go_wp2
          go_ret
          refine ⟨_, rfl, HB1.out.size, HR.out.congr fun t _ => ?_, below_then HB1.out HT.out⟩
          have h1 : LL.any (fun c => A c.toNat t) = (namedN blk.fin).any (fun c => A c.toNat t) := by
            rw [Bool.eq_iff_iff, List.any_eq_true, List.any_eq_true]
            constructor
            · rintro ⟨c, hc, h⟩; exact ⟨c, (HLM.out c).1 hc, h⟩
            · rintro ⟨c, hc, h⟩; exact ⟨c, (HLM.out c).2 hc, h⟩
          rw [hkn2, HN7.out, List.take_length]
          unfold endB
          rw [HU1.out]
          show (_ || LL.any (fun c => A c.toNat t)) = _
          rw [h1, Bool.or_comm]
end Go.Proofs.YtcijaaiopfbffaaDoor.Live
namespace Go.Proofs.YtcijaaiopfbffaaDoor.Live
open Go.RowKit Go.Proofs.YtcijaaiopfbffaaDoor.Graph Go.Shelf

/-- What is needed ahead of a row of operations. -/
def backs (l : List PIns) (U : Nat → Bool) : Nat → Bool := l.foldr backB U
theorem backs_first (e : PEnd) (A : Nat → Nat → Bool) (t : Nat) : ∀ l, backs l (endB e A) t = (decide (firstC e t l = 1) || (decide (firstC e t l = 0) && (namedN e).any (fun c => A c.toNat t)))
  | [] => by
    show endB e A t = _
    unfold endB firstC
    by_cases h : (t : Int) ∈ usesE e
    · rw [if_pos h, decide_eq_true h]; simp
    · rw [if_neg h, decide_eq_false h]; simp
  | x :: r => by
    show backB x (backs r (endB e A)) t = _
    have ih := backs_first e A t r
    unfold backB
    rw [ih]
    have hc : firstC e (t : Int) (x :: r) = (if (t : Int) ∈ usesI x then 1 else if setsT x = true ∧ x.d = (t : Int) then 2 else firstC e (t : Int) r) := rfl
    rw [hc]
    by_cases h : (t : Int) ∈ usesI x
    · rw [if_pos h, decide_eq_true h]; simp
    · rw [if_neg h, decide_eq_false h]
      by_cases h2 : setsT x = true ∧ x.d = (t : Int)
      · rw [if_pos h2, h2.1, decide_eq_true h2.2]; simp
      · rw [if_neg h2]
        have : (setsT x && decide (x.d = (t : Int))) = false := by
          cases hq : setsT x
          · rfl
          · rw [decide_eq_false (fun h3 => h2 ⟨hq, h3⟩)]; rfl
        rw [this]; simp
/-- What a block makes of what is needed at the beginnings of all. -/
def stepB (x : PGr) (A : Nat → Nat → Bool) (b t : Nat) : Bool := match x.blocks[b]? with
  | some blk => backs blk.code (endB blk.fin A) t
  | none => false
theorem stepB_iff {x : PGr} {A : Nat → Nat → Bool} {b t : Nat} {blk : PBlk} (hb : x.blocks[b]? = some blk) :
    stepB x A b t = true ↔ firstB blk t = 1 ∨ (firstB blk t = 0 ∧ ∃ c ∈ namedN blk.fin, A c.toNat t = true) := by
  unfold stepB firstB
  rw [hb]
  simp only [backs_first, Bool.or_eq_true, Bool.and_eq_true, decide_eq_true_eq, List.any_eq_true]
def putB (A : Nat → Nat → Bool) (b : Nat) (V : Nat → Bool) : Nat → Nat → Bool := fun k => if k = b then V else A k
theorem named_lt {x : PGr} (hf : fitsB x = true) {b : Nat} {blk : PBlk} (hb : x.blocks[b]? = some blk) {c : Int} (hc : c ∈ namedN blk.fin) : ∃ k : Nat, c = (k : Int) ∧ k < x.blocks.length := by
  have h1 := List.all_eq_true.1 (fits_blk hf hb).2 c hc
  unfold belowB at h1
  have h2 : 0 ≤ c ∧ c < x.blocks.length := by simpa using h1
  obtain ⟨k, rfl⟩ := Int.eq_ofNat_of_zero_le h2.1
  exact ⟨k, rfl, by omega⟩
theorem stepB_mono {x : PGr} (hf : fitsB x = true) {A A' : Nat → Nat → Bool} {t : Nat} (hle : ∀ c, c < x.blocks.length → A c t = true → A' c t = true) (b : Nat) (h : stepB x A b t = true) : stepB x A' b t = true := by
  cases hb : x.blocks[b]? with
  | none => unfold stepB at h; rw [hb] at h; cases h
  | some blk =>
    rw [stepB_iff hb] at h ⊢
    rcases h with h | ⟨h, c, hc, h1⟩
    · exact .inl h
    · obtain ⟨k, rfl, hk⟩ := named_lt hf hb hc
      exact .inr ⟨h, _, hc, hle k hk h1⟩
/-- What holds of what is known so far. -/
structure AtInv (x : PGr) (T : Nat) (A : Nat → Nat → Bool) : Prop where
  sound : ∀ b t, b < x.blocks.length → t < T → A b t = true → Need x b (t : Int)
  post : ∀ b t, b < x.blocks.length → t < T → A b t = true → stepB x A b t = true
theorem AtInv.zero (x : PGr) (T : Nat) : AtInv x T fun _ _ => false := ⟨fun _ _ _ _ h => (Bool.false_ne_true h).elim, fun _ _ _ _ h => (Bool.false_ne_true h).elim⟩
theorem AtInv.le {x : PGr} {T : Nat} {A : Nat → Nat → Bool} (h : AtInv x T A) {b : Nat} (hb : b < x.blocks.length) : ∀ k t, k < x.blocks.length → t < T → A k t = true → putB A b (stepB x A b) k t = true := fun k t hk ht ha => by
  unfold putB
  by_cases e : k = b
  · subst e; rw [if_pos rfl]; exact h.post k t hk ht ha
  · rw [if_neg e]; exact ha
theorem AtInv.put {x : PGr} {T : Nat} {A : Nat → Nat → Bool} (h : AtInv x T A) (hf : fitsB x = true) {b : Nat} (hb : b < x.blocks.length) : AtInv x T (putB A b (stepB x A b)) := by
  refine ⟨fun k t hk ht ha => ?_, fun k t hk ht ha => ?_⟩
  · unfold putB at ha
    by_cases e : k = b
    · subst e
      rw [if_pos rfl] at ha
      have hblk : x.blocks[k]? = some x.blocks[k] := List.getElem?_eq_getElem hk
      rcases (stepB_iff hblk).1 ha with h1 | ⟨h1, c, hc, h2⟩
      · exact Need.use hblk h1
      · obtain ⟨q, rfl, hq⟩ := named_lt hf hblk hc
        exact Need.step hblk h1 hc (h.sound q t hq ht h2)
    · rw [if_neg e] at ha; exact h.sound k t hk ht ha
  · refine stepB_mono hf (A := A) (fun c hc => h.le hb c t hc ht) k ?_
    unfold putB at ha
    by_cases e : k = b
    · subst e; rw [if_pos rfl] at ha; exact ha
    · rw [if_neg e] at ha; exact h.post k t hk ht ha
/-- Where nothing is added any more, all that is needed is known. -/
theorem fix_need {x : PGr} (_hf : fitsB x = true) {A : Nat → Nat → Bool} {t : Nat} (h : ∀ b, b < x.blocks.length → stepB x A b t = true → A b t = true) {b : Nat} (hn : Need x b (t : Int)) : A b t = true := by
  generalize ht : (t : Int) = s at hn
  induction hn with
  | use hb h1 =>
    subst ht
    exact h _ (List.getElem?_eq_some_iff.1 hb).1 ((stepB_iff hb).2 (.inl h1))
  | step hb h1 hc _ ih =>
    have ih2 := ih ht
    subst ht
    exact h _ (List.getElem?_eq_some_iff.1 hb).1 ((stepB_iff hb).2 (.inr ⟨h1, _, hc, by rw [Int.toNat_natCast]; exact ih2⟩))
theorem at_need {x : PGr} (hf : fitsB x = true) {T : Nat} {A : Nat → Nat → Bool} (hi : AtInv x T A) (h : ∀ b t, b < x.blocks.length → t < T → stepB x A b t = A b t) {b t : Nat} (hb : b < x.blocks.length) (ht : t < T) : A b t = true ↔ Need x b (t : Int) :=
  ⟨hi.sound b t hb ht, fun hn => fix_need hf (fun b hb h1 => by rw [← h b t hb ht]; exact h1) hn⟩
/-- How much is known. -/
def cntB (n T : Nat) (A : Nat → Nat → Bool) : Nat := ((List.range (n * T)).filter fun k => A (k / T) (k % T)).length
theorem cntB_le (n T : Nat) (A : Nat → Nat → Bool) : cntB n T A ≤ n * T := by
  unfold cntB
  refine Nat.le_trans (List.length_filter_le _ _) ?_
  rw [List.length_range]; exact Nat.le_refl _
theorem cntB_less {n T : Nat} {A A' : Nat → Nat → Bool} (hle : ∀ b t, b < n → t < T → A b t = true → A' b t = true) {b t : Nat} (hb : b < n) (ht : t < T) (h1 : A' b t = true) (h0 : A b t = false) : cntB n T A < cntB n T A' := by
  unfold cntB
  have hT : 0 < T := by omega
  have e1 : (b * T + t) / T = b := by rw [Nat.mul_comm, Nat.mul_add_div hT, Nat.div_eq_of_lt ht, Nat.add_zero]
  have e2 : (b * T + t) % T = t := by rw [Nat.mul_comm, Nat.mul_add_mod, Nat.mod_eq_of_lt ht]
  refine filter_less (b0 := b * T + t) (fun k hk h => ?_) ?_ ?_ ?_
  · have hk2 := List.mem_range.1 hk
    exact hle _ _ (Nat.div_lt_of_lt_mul (by rw [Nat.mul_comm]; exact hk2)) (Nat.mod_lt _ hT) h
  · rw [List.mem_range]
    calc b * T + t < b * T + T := by omega
      _ = (b + 1) * T := by rw [Nat.add_mul, Nat.one_mul]
      _ ≤ n * T := Nat.mul_le_mul_right _ hb
  · show A' ((b * T + t) / T) ((b * T + t) % T) = true
    rw [e1, e2]; exact h1
  · show A ((b * T + t) / T) ((b * T + t) % T) = false
    rw [e1, e2]; exact h0
end Go.Proofs.YtcijaaiopfbffaaDoor.Live
namespace Go.Proofs.YtcijaaiopfbffaaDoor.Live
open Go.RowKit Go.Proofs.YtcijaaiopfbffaaDoor.Graph Go.Shelf

/-- The row of rows at block ab. -/
def AtS (w : World) (ab n T : Nat) (A : Nat → Nat → Bool) : Prop :=
  ∃ cs, w.heap[ab]? = some (.cells cs 45 (0, 0)) ∧ ∀ b, b < n → ∃ gb, cs[b]? = some (.slice (some ⟨gb, 0, none⟩) T T) ∧ BoRow w gb T (A b)
section
variable {w w' : World} {ab n T : Nat} {A : Nat → Nat → Bool}
theorem AtS.lt (h : AtS w ab n T A) : ab < w.heap.size := by
  obtain ⟨cs, h1, _⟩ := h
  exact (Array.getElem?_eq_some_iff.1 h1).1
theorem AtS.atR (h : AtS w ab n T A) {c : Nat} (hc : n ≤ c) (h63 : c ≤ 9223372036854775807) : AtR w (.slice (some ⟨ab, 0, none⟩) n c) n T A := by
  have hlt := h.lt
  obtain ⟨cs, h1, h2⟩ := h
  refine ⟨ab, c, rfl, hc, h63, hlt, fun b hb => ?_⟩
  obtain ⟨gb, h3, h4⟩ := h2 b hb
  exact ⟨gb, by simp [World.cell?, h1, h3], h4⟩
theorem AtS.frozen (h : AtS w ab n T A) (k : Nat) : w.frozen? ⟨ab, k, none⟩ = false := by
  obtain ⟨cs, h1, _⟩ := h
  simp [World.frozen?, h1]
theorem AtS.cell (h : AtS w ab n T A) {b : Nat} (hb : b < n) : ∃ gb, w.cell? ⟨ab, b, none⟩ = some (.slice (some ⟨gb, 0, none⟩) T T) ∧ BoRow w gb T (A b) := by
  obtain ⟨cs, h1, h2⟩ := h
  obtain ⟨gb, h3, h4⟩ := h2 b hb
  exact ⟨gb, by simp [World.cell?, h1, h3], h4⟩
theorem AtS.below (h : AtS w ab n T A) (hb : Below w.heap.size w w') : AtS w' ab n T A := by
  have hlt := h.lt
  obtain ⟨cs, h1, h2⟩ := h
  refine ⟨cs, (hb.block _ hlt).trans h1, fun b hbn => ?_⟩
  obtain ⟨gb, h3, h4⟩ := h2 b hbn
  exact ⟨gb, h3, h4.below hb⟩
theorem AtS.congr {A' : Nat → Nat → Bool} (h : AtS w ab n T A) (he : ∀ b t, b < n → t < T → A b t = A' b t) : AtS w ab n T A' := by
  obtain ⟨cs, h1, h2⟩ := h
  refine ⟨cs, h1, fun b hb => ?_⟩
  obtain ⟨gb, h3, h4⟩ := h2 b hb
  exact ⟨gb, h3, h4.congr fun t ht => he b t hb ht⟩
/-- A row of booleans is no row of rows. -/
theorem bo_ne {g : Nat} {U : Nat → Bool} (hr : BoRow w g T U) (h : AtS w ab n T A) : g ≠ ab := by
  intro e
  subst e
  obtain ⟨cs, h1, _⟩ := hr
  obtain ⟨cs', h2, _⟩ := h
  rw [h1] at h2
  injection h2 with h2
  injection h2 with _ h2
  exact absurd h2 (by decide)
theorem AtS.set (h : AtS w ab n T A) {b gn : Nat} {V : Nat → Bool} (hr : BoRow w gn T V) : AtS (w.setCell ⟨ab, b, none⟩ (.slice (some ⟨gn, 0, none⟩) T T)) ab n T (putB A b V) := by
  have h0 := h
  obtain ⟨cs, h1, h2⟩ := h
  refine ⟨_, heap_setCell_same w ab _ _ _ _ h1, fun k hk => ?_⟩
  obtain ⟨gb, h3, h4⟩ := h2 k hk
  have hko : ∀ {g : Nat} {U : Nat → Bool}, BoRow w g T U → BoRow (w.setCell ⟨ab, b, none⟩ (.slice (some ⟨gn, 0, none⟩) T T)) g T U := fun {g} {U} hg => hg.keep (heap_setCell_other w ⟨ab, b, none⟩ g _ (bo_ne hg h0))
  by_cases e : k = b
  · subst e
    refine ⟨gn, ?_, ?_⟩
    · rw [Array.getElem?_setIfInBounds_self_of_lt (Array.getElem?_eq_some_iff.1 h3).1]
    · have : putB A k V k = V := by unfold putB; rw [if_pos rfl]
      rw [this]; exact hko hr
  · refine ⟨gb, ?_, ?_⟩
    · rw [Array.getElem?_setIfInBounds_ne (Ne.symm e)]; exact h3
    · have : putB A b V k = A k := by unfold putB; rw [if_neg e]
      rw [this]; exact hko h4
end
open Classical in
/-- What a world says of it. -/
noncomputable def atW (w : World) (ab T b t : Nat) : Bool := decide (∃ gb, w.cell? ⟨ab, b, none⟩ = some (.slice (some ⟨gb, 0, none⟩) T T) ∧ w.cell? ⟨gb, t, none⟩ = some (.bool true))
open Classical in
theorem AtS.atW {w : World} {ab n T : Nat} {A : Nat → Nat → Bool} (h : AtS w ab n T A) {b t : Nat} (hb : b < n) (ht : t < T) : atW w ab T b t = A b t := by
  obtain ⟨gb, h1, h2⟩ := h.cell hb
  have h3 := h2.cell ht
  rw [Bool.eq_iff_iff]
  show decide _ = true ↔ _
  rw [decide_eq_true_eq]
  constructor
  · rintro ⟨g, h4, h5⟩
    rw [h1] at h4
    injection h4 with h4
    injection h4 with h4
    injection h4 with h4
    injection h4 with h4
    subst h4
    rw [h3] at h5
    injection h5 with h5
    injection h5
  · intro h4
    rw [h4] at h3
    exact ⟨gb, h1, h3⟩
theorem cntB_congr {n T : Nat} {A A' : Nat → Nat → Bool} (h : ∀ b t, b < n → t < T → A b t = A' b t) : cntB n T A = cntB n T A' := by
  unfold cntB
  have : ∀ k ∈ List.range (n * T), (fun k => A (k / T) (k % T)) k = (fun k => A' (k / T) (k % T)) k := fun k hk => by
    have hk2 := List.mem_range.1 hk
    rcases Nat.eq_zero_or_pos T with h0 | h0
    · subst h0; simp at hk2
    · exact h _ _ (Nat.div_lt_of_lt_mul (by rw [Nat.mul_comm]; exact hk2)) (Nat.mod_lt _ h0)
  rw [List.filter_congr this]
end Go.Proofs.YtcijaaiopfbffaaDoor.Live
namespace Go.Proofs.YtcijaaiopfbffaaDoor.Live
open Go.RowKit Go.Proofs.YtcijaaiopfbffaaDoor.Graph Go.Shelf

def rowV (T g : Nat) : Value := .slice (some ⟨g, 0, none⟩) T T
theorem info_bools : (Tryd.prog.info? 45).map (fun i => (i.zero, i.size, i.bytes)) = some (some (.slice none 0 0), 1, 24) := by kernel_rfl
/-- A row of booleans stays when a row of rows grows. -/
theorem bo_grown {w w7 : World} {B T n gb : Nat} {v : Value} {xs : List Value} {U : Nat → Bool} (hr : BoRow w gb T U) (ho : w.ownsRow B 45 1 v n xs) (hg : w.grownBy w7 v.ownBlock) : BoRow w7 gb T U := by
  refine hr.keep (hg.block _ hr.lt fun e => ?_)
  obtain ⟨cs, h1, _⟩ := hr
  obtain ⟨_, ⟨rfl, _⟩ | ⟨g, cap, cur, rfl, _, h2, _⟩⟩ := ho
  · simp [Value.ownBlock] at e
  · simp [Value.ownBlock] at e
    subst e
    rw [h1] at h2
    injection h2 with h2
    injection h2 with _ h2
    exact absurd h2 (by decide)
theorem atS_own {w : World} {B T n : Nat} {v : Value} {gs : List Nat} (ho : w.ownsRow B 45 1 v n (gs.map (rowV T))) (hl : gs.length = n) (hn : 0 < n) (hA : ∀ g ∈ gs, BoRow w g T fun _ => false) :
    ∃ ab c, v = .slice (some ⟨ab, 0, none⟩) n c ∧ n ≤ c ∧ c ≤ maxLen ∧ B ≤ ab ∧ AtS w ab n T fun _ _ => false := by
  obtain ⟨h1, ⟨rfl, h0⟩ | ⟨g, cap, cur, rfl, hB, hg, hc1, hc2, hc3, hx⟩⟩ := ho
  · omega
  · refine ⟨g, cap, rfl, hc1, hc2, hB, cur, hg, fun b hb => ?_⟩
    have hb2 : b < gs.length := by omega
    refine ⟨gs[b], ?_, hA _ (List.getElem_mem hb2)⟩
    have h2 : (gs.map (rowV T))[b]? = some (rowV T gs[b]) := by rw [List.getElem?_map, List.getElem?_eq_getElem hb2]; rfl
    rw [← hx, List.getElem?_take, if_pos (by omega)] at h2
    rw [← Array.getElem?_toList]; exact h2
set_option maxHeartbeats 8000000 in
set_option maxRecDepth 100000 in
theorem needed13_any (x : PGr) (vp va vb : Value) (w : World) (h : GrL w vp va vb x) (hs : SmG x) (T : Nat) (hT : x.temps = T) (hf : fitsB x = true) :
    Calls Tryd.prog 34 #[grV x vp va vb] w fun e w' => ∃ ab c A, e = .returned (.slice (some ⟨ab, 0, none⟩) x.blocks.length c) ∧ x.blocks.length ≤ c ∧ c ≤ 9223372036854775807 ∧ AtS w' ab x.blocks.length T A ∧ (∀ b t, b < x.blocks.length → t < T → (A b t = true ↔ Need x b (t : Int))) ∧ Below w.heap.size w w' := by
  obtain ⟨hn1, hn2, ht1, ht2⟩ : 1 ≤ x.blocks.length ∧ x.blocks.length ≤ 20000 ∧ 0 ≤ x.temps ∧ x.temps ≤ 8000 := by
    unfold fitsB at hf
    rw [Bool.and_eq_true, decide_eq_true_eq] at hf
    exact hf.1
  have HF := Lib.hid hf
  have HTE := Lib.hid hT
  obtain ⟨pp, pc, rfl⟩ := h.params.form
  obtain ⟨ap, ac, rfl⟩ := h.arrays.form
  have HBK := Lib.hid h.blocks
  obtain ⟨bp, bc, rfl⟩ := h.blocks.form
  have HEO := Lib.hid (fun (W : World) (hW : Below w.heap.size w W) => fun b blk hb v A hA => endOf_any x _ _ _ W (h.below hW) hs T hT hf b blk hb v A hA)
  have HS := Lib.hid hs
  unfold grV at HEO ⊢
  obtain ⟨n, hn⟩ : ∃ n, n = x.blocks.length := ⟨_, rfl⟩
  have HN := Lib.hid hn
  rw [← hn] at HEO ⊢
  rw [hT] at HEO ⊢
  have t0 : (0 : Int) ≤ T := by omega
  have HT2 : Hid (T ≤ 20000 ∧ T ≤ 8000) := Lib.hid ⟨by omega, by omega⟩
  have HNN : Hid (1 ≤ n ∧ n ≤ 20000) := Lib.hid ⟨by omega, by omega⟩
  have HX1 : Hid ((w.alloc (.cells #[.slice pp x.params.length pc, .int .i64 (T : Int), .slice ap x.arrays.length ac, .slice bp n bc] 26)).heap[w.heap.size]? = some (.cells #[.slice pp x.params.length pc, .int .i64 (T : Int), .slice ap x.arrays.length ac, .slice bp n bc] 26 (0, 0))) := Lib.hid (heap_new w _)
  have HB1 := Lib.hid (Graph.below_alloc w (.cells #[.slice pp x.params.length pc, .int .i64 (T : Int), .slice ap x.arrays.length ac, .slice bp n bc] 26))
  obtain ⟨i0, hi, hz0, hz1, hz2⟩ := info_parts info_bools
  have HI := Lib.hid hi
  clear h hs hT hf hn1 hn2 ht1 ht2 hn hi
  go_enter Tryd.func34, Tryd.ntmps34
  go_upto_region 1 with (fail)
  generalize w.alloc (.cells #[.slice pp x.params.length pc, .int .i64 (T : Int), .slice ap x.arrays.length ac, .slice bp n bc] 26) = W1 at HX1 HB1 ⊢
  have HBX : Hid (∀ W, Below W1.heap.size W1 W → W.cell? ⟨w.heap.size, 0, none⟩ = some (.slice pp x.params.length pc) ∧ W.cell? ⟨w.heap.size, 1, none⟩ = some (.int .i64 (T : Int)) ∧ W.cell? ⟨w.heap.size, 2, none⟩ = some (.slice ap x.arrays.length ac) ∧ W.cell? ⟨w.heap.size, 3, none⟩ = some (.slice bp n bc)) := Lib.hid (fun W hW => by
    have hb := (hW.block _ (Array.getElem?_eq_some_iff.1 HX1.out).1).trans HX1.out
    exact ⟨(cell_of_block hb (k := 0) rfl).1, (cell_of_block hb (k := 1) rfl).1, (cell_of_block hb (k := 2) rfl).1, (cell_of_block hb (k := 3) rfl).1⟩)
  go_wp2
  go_loopw [3, 4] (fun o i wr => ∃ (k : Nat) (gs : List Nat), k ≤ n ∧ i = .int .i64 k ∧ Hid (gs.length = k ∧ wr.ownsRow W1.heap.size 45 1 o k (gs.map (rowV T))) ∧ Hid (∀ g ∈ gs, BoRow wr g T fun _ => false) ∧ Hid (Below W1.heap.size W1 wr)) (fun _ i _ => n - (intOf i).toNat)
  case atStart => exact ⟨0, [], Nat.zero_le _, rfl, Lib.hid ⟨rfl, World.ownsRow_nil _ _ _ _⟩, Lib.hid (fun g hg => absurd hg List.not_mem_nil), Lib.hid (Below.refl _ _)⟩
  case round =>
    obtain ⟨k, gs, hk, rfl, HO, HG, HB⟩ := hrel
    obtain ⟨y0, y1, y2, y3⟩ := HBX.out wr HB.out
    obtain ⟨po, co, rfl, ho63⟩ := own_form HO.out.2
    by_cases hkn : k < n
    · have ki : (k : Int) < n := by omega
      have k0 : (0 : Int) ≤ k := by omega
      have k4 : (k : Int) < 20000 := by have := HNN.out; omega
      have hml := make_bools T HT2.out.1 wr
      have HR0 : Hid (BoRow (wr.alloc (.cells (madeCells #[.bool false] T) 4)) wr.heap.size T fun _ => false) := Lib.hid (made_bools (heap_new wr _))
      have HO3 : Hid ((wr.alloc (.cells (madeCells #[.bool false] T) 4)).ownsRow W1.heap.size 45 1 (.slice po k co) k (gs.map (rowV T))) := Lib.hid (own_below HO.out.2 (Graph.below_alloc wr _))
      have HG3 : Hid (∀ g ∈ gs, BoRow (wr.alloc (.cells (madeCells #[.bool false] T) 4)) g T fun _ => false) := Lib.hid (fun g hg => (HG.out g hg).below (Graph.below_alloc wr _))
      have HB3 : Hid (Below W1.heap.size W1 (wr.alloc (.cells (madeCells #[.bool false] T) 4))) := Lib.hid (below_then HB.out (Graph.below_alloc wr _))
      have HSZ : Hid ((wr.alloc (.cells (madeCells #[.bool false] T) 4)).heap.size = wr.heap.size + 1) := Lib.hid (World.size_alloc _ _)
      have HNW := Lib.hid (news_row (w := wr.alloc (.cells (madeCells #[.bool false] T) 4)) (v := .slice (some ⟨wr.heap.size, 0, none⟩) T T) (H := wr.heap.size + 1) (t := 45) (World.size_alloc _ _))
      have HO4 : Hid (((wr.alloc (.cells (madeCells #[.bool false] T) 4)).alloc (.cells #[.slice (some ⟨wr.heap.size, 0, none⟩) T T] 45)).ownsRow W1.heap.size 45 1 (.slice po k co) k (gs.map (rowV T))) := Lib.hid (own_below HO3.out (Graph.below_alloc _ _))
      have HB4 : Hid (Below W1.heap.size W1 ((wr.alloc (.cells (madeCells #[.bool false] T) 4)).alloc (.cells #[.slice (some ⟨wr.heap.size, 0, none⟩) T T] 45))) := Lib.hid (below_then HB3.out (Graph.below_alloc _ _))
      have HG4 : Hid (∀ g ∈ gs ++ [wr.heap.size], BoRow ((wr.alloc (.cells (madeCells #[.bool false] T) 4)).alloc (.cells #[.slice (some ⟨wr.heap.size, 0, none⟩) T T] 45)) g T fun _ => false) := Lib.hid (fun g hg => by
        rcases List.mem_append.1 hg with hg | hg
        · exact (HG3.out g hg).below (Graph.below_alloc _ _)
        · rw [List.mem_singleton.1 hg]; exact HR0.out.below (Graph.below_alloc _ _))
      have HKN : Hid (k ≤ 20000) := Lib.hid (by have := HNN.out; omega)
      clear HO3 HG3 HR0 HG HSZ ho63 hkn hk
      go_wp2_with (
        at_builtin
        go_loud (refine wpList_append_lies _ (by rfl) _ _ 74 (by rfl) W1.heap.size 45 i0 _ 1 24 Tryd.underlying74 HI.out hz0 hz1 hz2 rfl (by omega) _ k _ (by rfl) HO4.out ⟨wr.heap.size + 1, 0, none⟩ 1 1 [.slice (some ⟨wr.heap.size, 0, none⟩) T T] (by first | rfl | simp) rfl HNW.out (by simp [Value.oneCell']) (by omega) (by unfold maxLen; have := HKN.out; omega) (by have := HKN.out; omega) HB4.out.size _ rfl ?_)
        intro g5 c5 w7 h5 h6 h7 h8
        have H5 := Lib.hid h5
        have HG7 : Hid (∀ g ∈ gs ++ [wr.heap.size], BoRow w7 g T fun _ => false) := Lib.hid (fun g hg => bo_grown (HG4.out g hg) HO4.out h6)
        have HB7 : Hid (Below W1.heap.size W1 w7) := Lib.hid (Below.grown HB4.out h6 HB4.out.size (fun q hq => (HO4.out.lt q hq).1))
        clear h5 h6 h7 h8)
      exact ⟨⟨k + 1, gs ++ [wr.heap.size], by omega, by go_num, Lib.hid ⟨by rw [List.length_append, HO.out.1]; rfl, by rw [List.map_append]; exact H5.out⟩, HG7, HB7⟩, by simp [intOf]; omega⟩
    · have hkn2 : k = n := by omega
      have ki : ¬ ((k : Int) < n) := by omega
      have hkn3 : n = k := hkn2.symm
      subst hkn3
      obtain ⟨ab, c, hv, hc1, hc2, hBa, hA0⟩ := atS_own HO.out.2 HO.out.1 (by have := HNN.out; omega) HG.out
      injection hv with e1 e2 e3
      clear e2
      subst e1 e3
      have HA0 := Lib.hid hA0
      have HBA := Lib.hid hBa
      clear hA0 hBa ho63
      have HC := Lib.hid (And.intro hc1 hc2)
      clear HO HG hc1 hc2
      go_wp2
      go_loopw [5] (fun o wr => ∃ (mb : Bool) (A : Nat → Nat → Bool), o = .bool mb ∧ Hid (AtS wr ab n T A) ∧ Hid (AtInv x T A) ∧ Hid (mb = false → ∀ b t, b < n → t < T → stepB x A b t = A b t) ∧ Hid (Below W1.heap.size W1 wr)) (fun o wr => match o with | .bool false => 0 | _ => n * T + 1 - cntB n T (atW wr ab T))
      case atStart => exact ⟨true, _, rfl, HA0, Lib.hid (AtInv.zero x T), Lib.hid (fun h => by cases h), HB⟩
      case round =>
        obtain ⟨mb, A, rfl, HA, HV, HFX, HB⟩ := hrel
        cases mb with
        | false =>
          go_wp2
          go_ret
          refine ⟨ab, co, rfl, HC.out.1, by have := HC.out.2; unfold maxLen at this; omega, A, HA.out, fun b t hb ht => ?_, below_then HB1.out HB.out⟩
          have hl := HN.out
          exact at_need HF.out HV.out (fun b t hb ht => HFX.out (by first | trivial | rfl) b t (by omega) ht) (by omega) ht
        | true =>
          obtain ⟨y0, y1, y2, y3⟩ := HBX.out wr HB.out
          have n2 : (n : Int) ≤ 20000 := by have := HNN.out; omega
          have n1 : (1 : Int) ≤ n := by have := HNN.out; omega
          have HCN : Hid (cntB n T (atW wr ab T) = cntB n T A) := Lib.hid (cntB_congr fun b t hb ht => HA.out.atW hb ht)
          go_wp2
          clear y0 y1 y2 y3
          go_loopw [5, 6] (fun o i wq => ∃ (k : Nat) (mb : Bool) (A' : Nat → Nat → Bool), k ≤ n ∧ o = .bool mb ∧ i = .int .i64 ((k : Int) - 1) ∧ Hid (AtS wq ab n T A') ∧ Hid (AtInv x T A') ∧ Hid (∀ b t, b < n → t < T → A b t = true → A' b t = true) ∧ Hid (mb = false → (∀ b t, b < n → t < T → A' b t = A b t) ∧ ∀ b t, k ≤ b → b < n → t < T → stepB x A' b t = A' b t) ∧ Hid (mb = true → ∃ b t, b < n ∧ t < T ∧ A' b t = true ∧ A b t = false) ∧ Hid (Below W1.heap.size W1 wq)) (fun _ i _ => (intOf i + 1).toNat)
          case atStart => exact ⟨n, false, A, Nat.le_refl _, rfl, by go_num, HA, HV, Lib.hid (fun _ _ _ _ h => h), Lib.hid (fun _ => ⟨fun _ _ _ _ => rfl, fun b t h1 h2 => absurd h1 (by omega)⟩), Lib.hid (fun h => by cases h), HB⟩
          case round =>
            obtain ⟨k, mb, A', hk, rfl, rfl, HA2, HV2, HLE, HFF, HTT, HB2⟩ := hrel
            rcases Nat.eq_zero_or_pos k with hk0 | hk0
            · subst hk0
              go_wp2
              refine ⟨⟨mb, A', rfl, HA2, HV2, Lib.hid (fun h => fun b t hb ht => (HFF.out h).2 b t (Nat.zero_le _) hb ht), HB2⟩, ?_⟩
              cases mb with
              | false => show 0 < n * T + 1 - cntB n T (atW _ ab T); rw [HCN.out]; have := cntB_le n T A; omega
              | true =>
                obtain ⟨b, t, h1, h2, h3, h4⟩ := HTT.out rfl
                show n * T + 1 - cntB n T (atW _ ab T) < n * T + 1 - cntB n T (atW _ ab T)
                rw [HCN.out, cntB_congr fun b t hb ht => HA2.out.atW hb ht]
                have q1 := cntB_less HLE.out h1 h2 h3 h4
                have q2 := cntB_le n T A'
                exact Nat.sub_lt_sub_left (Nat.lt_of_lt_of_le q1 (Nat.le_succ_of_le q2)) q1
            · obtain ⟨q, rfl⟩ : ∃ q, k = q + 1 := ⟨k - 1, by omega⟩
              have hqn : q < n := by omega
              obtain ⟨blk, hblk⟩ : ∃ blk, x.blocks[q]? = some blk := ⟨_, List.getElem?_eq_getElem (by have := HN.out; omega)⟩
              have HBL := Lib.hid hblk
              have eq1 : ((q + 1 : Nat) : Int) - 1 = (q : Int) := by omega
              rw [eq1]
              have qi : (0 : Int) ≤ q := by omega
              have qn : (q : Int) < n := by omega
              have HEN := Lib.hid (HEO.out wr (below_then HB1.out HB2.out) q blk hblk _ A' (HA2.out.atR HC.out.1 (by have := HC.out.2; unfold maxLen at this; omega)))
              have HLT := Lib.hid HA2.out.lt
              obtain ⟨y0, y1, y2, y3⟩ := HBX.out wr HB2.out
              clear hblk
              go_upto_region 13 with (
                go_at_call 58
                refine HEN.out.mono ?_
                rintro e w5 ⟨gn, rfl, hgn, hr5, hb5⟩
                have HGN := Lib.hid hgn
                have HR5 := Lib.hid hr5
                have HB5 := Lib.hid hb5
                clear hgn hr5 hb5)
              clear y0 y1 y2 y3
              obtain ⟨g, o, cap, hv, hcap, hgl, _⟩ := SlR.form2 HBK.out (by have := HN.out; omega)
              injection hv with e1 e2 e3
              clear e2
              subst e1 e3
              have b2 : (n : Int) ≤ bc := by have := hcap.1; have := HN.out; omega
              have b3 : (bc : Int) ≤ 9223372036854775807 := by have := hcap.2; omega
              obtain ⟨pk, ck, pz, cc, pt, ct, ⟨c0w, _, _, _, _, _, _, _, _, _⟩, hck, hel, hg9⟩ := blk_at HBK.out (Below.refl _ w) HBL.out
              have HB6 : Hid (Below w.heap.size w wr) := Lib.hid (below_then HB1.out HB2.out)
              have HC0 : Hid (∀ W, Below wr.heap.size wr W → W.cell? ⟨g, o + q * 10, none⟩ = some (.slice pk blk.code.length ck)) := Lib.hid (fun W hW => (cell_below (below_then HB6.out hW) hg9 _).trans c0w)
              have HCK := Lib.hid hck
              obtain ⟨m, hm⟩ : ∃ m, m = blk.code.length := ⟨_, rfl⟩
              have HM := Lib.hid hm
              rw [← hm] at HC0
              have hblk2 := fits_blk HF.out HBL.out
              have hcf : ∀ y ∈ blk.code, insFit T y = true := fun y hy => by
                have h1 := hblk2.1
                unfold blkFit at h1
                rw [Bool.and_eq_true, List.all_eq_true, HTE.out] at h1
                exact h1.1 y hy
              have HCF := Lib.hid hcf
              have HSB : Hid (∀ y ∈ blk.code, y.args.length * 8 ≤ 140737488355328) := Lib.hid (fun y hy => by
                have := ((HS.out.2.2.2 blk (List.mem_of_getElem? HBL.out)).2.1 y hy).1; unfold reachBytes at this; omega)
              have c0 := HC0.out _ HB5.out
              obtain ⟨y0, y1, y2, y3⟩ := HBX.out w5 (below_then HB2.out HB5.out)
              have hm31 : (m : Int) ≤ 9223372036854775807 := by
                rcases Nat.eq_zero_or_pos m with h0 | h0
                · omega
                · obtain ⟨_, _, _, hv, hcap2, _, _⟩ := SlR.form2 HCK.out (by omega)
                  injection hv with _ e5 e6
                  omega
              clear hck hel hm hgl hcap hg9 c0w hblk2 hcf
              go_upto_region 14 with (fail)
              clear y0 y1 y2 y3 c0
              go_loopw [8] (fun i wq => ∃ k : Nat, k ≤ m ∧ i = .int .i64 ((k : Int) - 1) ∧ Hid (BoRow wq gn T (backs (blk.code.drop k) (endB blk.fin A'))) ∧ Hid (Below wr.heap.size wr wq)) (fun i _ => (intOf i + 1).toNat)
              case atStart => exact ⟨m, Nat.le_refl _, by go_num, Lib.hid (HR5.out.congr fun t _ => by rw [HM.out, List.drop_length]; rfl), HB5⟩
              case round =>
                obtain ⟨k, hk, rfl, HR, HW⟩ := hrel
                obtain ⟨y0, y1, y2, y3⟩ := HBX.out wr (below_then HB2.out HW.out)
                rcases Nat.eq_zero_or_pos k with hk0 | hk0
                · subst hk0
                  have hql : q < x.blocks.length := by have := HN.out; omega
                  obtain ⟨V, hV⟩ : ∃ V, V = stepB x A' q := ⟨_, rfl⟩
                  have HVE := Lib.hid hV
                  have HRV : Hid (BoRow wr gn T V) := Lib.hid (HR.out.congr fun t _ => by rw [hV]; unfold stepB; rw [HBL.out, List.drop_zero])
                  have HA7 : Hid (AtS wr ab n T A') := Lib.hid (HA2.out.below HW.out)
                  have HBW : Hid (Below W1.heap.size W1 wr) := Lib.hid (below_then HB2.out HW.out)
                  clear hV HR HR5
                  go_wp2
                  clear y0 y1 y2 y3
                  go_loopw [5, 9] (fun o i wq => ∃ (t : Nat) (m5 : Bool), t ≤ T ∧ o = .bool m5 ∧ i = .int .i64 t ∧ Hid (m5 = (mb || (List.range t).any (fun u => V u != A' q u))) ∧ Hid (Below wr.heap.size wr wq)) (fun _ i _ => T - (intOf i).toNat)
                  case atStart => exact ⟨0, mb, Nat.zero_le _, rfl, rfl, Lib.hid (by simp), Lib.hid (Below.refl _ _)⟩
                  case round =>
                    obtain ⟨t, m5, ht, rfl, rfl, HM5, HW5⟩ := hrel
                    obtain ⟨y0, y1, y2, y3⟩ := HBX.out wr (below_then HBW.out HW5.out)
                    obtain ⟨gb, hcb, hrb⟩ := (HA7.out.below HW5.out).cell hqn
                    have a1 : (n : Int) ≤ co := by have := HC.out.1; omega
                    have a2 : (co : Int) ≤ 9223372036854775807 := by have := HC.out.2; unfold maxLen at this; omega
                    by_cases htT : t < T
                    · have ti : (t : Int) < T := by omega
                      have t00 : (0 : Int) ≤ t := by omega
                      have t3 : (T : Int) ≤ 9223372036854775807 := by have := HT2.out; omega
                      have hc1 := (HRV.out.below HW5.out).cell htT
                      have hc2 := hrb.cell htT
                      have HMX : Hid ((mb || (List.range (t + 1)).any (fun u => V u != A' q u)) = (m5 || (V t != A' q t))) := Lib.hid (by rw [List.range_succ, List.any_append, ← Bool.or_assoc, ← HM5.out]; simp)
                      have HDW : Hid (∀ k : Nat, Below wr.heap.size wr (wr.drewN k)) := Lib.hid (fun k => Graph.below_drewN wr k)
                      clear hrb htT
                      cases hv : V t <;> cases ha : A' q t <;> rw [hv] at hc1 <;> rw [ha] at hc2 <;> rw [hv, ha] at HMX <;> clear hv ha
                      all_goals
                        go_upto_region 20 with (fail)
                        go_quiet (fail)
                        go_wp2
                        refine ⟨⟨t + 1, _, by omega, rfl, by go_num, Lib.hid (by rw [HMX.out]; first | rfl | simp), Lib.hid (below_then HW5.out (by first | exact Below.refl _ _ | exact (Below.refl _ _).drew | exact Graph.below_drewN _ _))⟩, by simp [intOf]; omega⟩
                    · have htT2 : t = T := by omega
                      have ti : ¬ ((t : Int) < T) := by omega
                      have hfr := (HA7.out.below HW5.out).frozen q
                      have HA8 := Lib.hid ((HA7.out.below HW5.out).set (b := q) (HRV.out.below HW5.out))
                      rw [HVE.out] at HA8
                      clear hrb
                      have HBB : Hid (Below W1.heap.size W1 (wr.setCell ⟨ab, q, none⟩ (.slice (some ⟨gn, 0, none⟩) T T))) := Lib.hid (below_set (below_then HBW.out HW5.out) HBA.out)
                      have HNO : Hid (m5 = false → (∀ u, u < T → V u = A' q u) ∧ mb = false) := Lib.hid (fun h => by
                        have h1 := HM5.out
                        rw [h, htT2] at h1
                        have h2 := Bool.or_eq_false_iff.1 h1.symm
                        refine ⟨fun u hu => ?_, h2.1⟩
                        have h3 := List.any_eq_false.1 h2.2 u (List.mem_range.2 hu)
                        cases hv : V u <;> cases ha : A' q u <;> first | rfl | (rw [hv, ha] at h3; exact absurd rfl h3))
                      have HYE : Hid (m5 = true → mb = true ∨ ∃ u, u < T ∧ V u ≠ A' q u) := Lib.hid (fun h => by
                        have h1 := HM5.out
                        rw [h] at h1
                        rcases Bool.or_eq_true_iff.1 h1.symm with h2 | h2
                        · exact .inl h2
                        · obtain ⟨u, hu, h3⟩ := List.any_eq_true.1 h2
                          have hu2 := List.mem_range.1 hu
                          exact .inr ⟨u, by omega, by simpa using h3⟩)
                      rw [HVE.out] at HNO HYE
                      have HLE2 : Hid (∀ b t, b < n → t < T → A b t = true → putB A' q (stepB x A' q) b t = true) := Lib.hid (fun b t hb ht h => HV2.out.le hql b t (by have := HN.out; omega) ht (HLE.out b t hb ht h))
                      have HFF2 : Hid (m5 = false → (∀ b t, b < n → t < T → putB A' q (stepB x A' q) b t = A b t) ∧ ∀ b t, q ≤ b → b < n → t < T → stepB x (putB A' q (stepB x A' q)) b t = putB A' q (stepB x A' q) b t) := Lib.hid (fun h => by
                        obtain ⟨h1, h2⟩ := HNO.out h
                        obtain ⟨h3, h4⟩ := HFF.out h2
                        have h5 : ∀ b t, t < T → putB A' q (stepB x A' q) b t = A' b t := fun b t ht => by
                          unfold putB
                          by_cases e : b = q
                          · subst e; rw [if_pos rfl]; exact h1 t ht
                          · rw [if_neg e]
                        have h6 : ∀ b t, t < T → stepB x (putB A' q (stepB x A' q)) b t = stepB x A' b t := fun b t ht => by
                          rw [Bool.eq_iff_iff]
                          exact ⟨stepB_mono HF.out (fun c _ h => by rw [← h5 c t ht]; exact h) b, stepB_mono HF.out (fun c _ h => by rw [h5 c t ht]; exact h) b⟩
                        refine ⟨fun b t hb ht => (h5 b t ht).trans (h3 b t hb ht), fun b t hb hbn ht => ?_⟩
                        rw [h6 b t ht, h5 b t ht]
                        by_cases e : b = q
                        · subst e; exact h1 t ht
                        · exact h4 b t (by omega) hbn ht)
                      have HTT2 : Hid (m5 = true → ∃ b t, b < n ∧ t < T ∧ putB A' q (stepB x A' q) b t = true ∧ A b t = false) := Lib.hid (fun h => by
                        rcases HYE.out h with h1 | ⟨u, hu, h1⟩
                        · obtain ⟨b, t, hb, ht, h2, h3⟩ := HTT.out h1
                          exact ⟨b, t, hb, ht, HV2.out.le hql b t (by have := HN.out; omega) ht h2, h3⟩
                        · have h2 : A' q u = false := by
                            cases ha : A' q u
                            · rfl
                            · have := HV2.out.post q u hql hu ha
                              rw [this, ha] at h1
                              exact absurd rfl h1
                          refine ⟨q, u, hqn, hu, ?_, ?_⟩
                          · unfold putB
                            rw [if_pos rfl]
                            rw [h2] at h1
                            cases hv : stepB x A' q u
                            · rw [hv] at h1; exact absurd rfl h1
                            · rfl
                          · cases ha : A q u
                            · rfl
                            · have := HLE.out q u hqn hu ha
                              rw [h2] at this; cases this)
                      go_wp2
                      refine ⟨⟨q, m5, _, by omega, rfl, by go_num, HA8, Lib.hid (HV2.out.put HF.out hql), HLE2, HFF2, HTT2, HBB⟩, by simp [intOf]⟩
                · obtain ⟨j, rfl⟩ : ∃ j, k = j + 1 := ⟨k - 1, by omega⟩
                  obtain ⟨y, hy⟩ : ∃ y, blk.code[j]? = some y := ⟨_, List.getElem?_eq_getElem (by have := HM.out; omega)⟩
                  obtain ⟨gc, oc, cp, hv, hcap2, hgl, hP⟩ := SlR.form2 HCK.out (by have := HM.out; omega)
                  rw [← HM.out] at hv
                  injection hv with e1 e2 e3
                  clear e2
                  subst e1 e3
                  have c0 := HC0.out _ HW.out
                  obtain ⟨va, vr, hR0⟩ := hP j (by have := HM.out; omega) y hy
                  have hWw : Below w.heap.size w wr := below_then HB6.out HW.out
                  have hR := hR0.below hgl hWw
                  obtain ⟨z0, z1, z2, z3, z4, z5, z6, z7, _⟩ := hR
                  obtain ⟨_, _, _, _, _, _, _, _, hl0⟩ := hR0
                  have eq2 : ((j + 1 : Nat) : Int) - 1 = (j : Int) := by omega
                  rw [eq2]
                  have j0 : (0 : Int) ≤ j := by omega
                  have j1 : (j : Int) < m := by omega
                  have k2 : (m : Int) ≤ ck := by have := hcap2.1; have := HM.out; omega
                  have k3 : (ck : Int) ≤ 9223372036854775807 := by have := hcap2.2; omega
                  have hgw : w.heap.size ≤ gn := Nat.le_trans HB6.out.size HGN.out
                  have HBK2 := Lib.hid (back_any y va vr w wr hl0 hWw T HT2.out.2 (HCF.out y (List.mem_of_getElem? hy)) (HSB.out y (List.mem_of_getElem? hy)) gn _ hgw HR.out)
                  have HDR : Hid (blk.code.drop j = y :: blk.code.drop (j + 1)) := Lib.hid (by
                    obtain ⟨h1, h2⟩ := List.getElem?_eq_some_iff.1 hy
                    rw [List.drop_eq_getElem_cons h1, h2])
                  obtain ⟨ap9, ac9, rfl⟩ := hl0.args.form
                  obtain ⟨rp9, rc9, rfl⟩ := hl0.arrs.form
                  unfold insV at HBK2
                  clear hy hP hl0 hWw hcap2 hgl hgw
                  go_wp2_with (
                    go_at_call 59
                    refine HBK2.out.mono ?_
                    rintro e w6 ⟨rfl, hr6, ht6⟩
                    have HR6 := Lib.hid hr6
                    have HT6 := Lib.hid ht6
                    clear hr6 ht6)
                  exact ⟨⟨j, by omega, by go_num, Lib.hid (HR6.out.congr fun t _ => by rw [HDR.out]; rfl), Lib.hid (HT6.out.below HW.out HGN.out HGN.out HW.out.size)⟩, by first | (simp [intOf]; done) | (simp [intOf]; omega)⟩
end Go.Proofs.YtcijaaiopfbffaaDoor.Live
namespace Go.Proofs.YtcijaaiopfbffaaDoor.Live
open Go.RowKit Go.Proofs.YtcijaaiopfbffaaDoor.Graph Go.Shelf

set_option maxHeartbeats 4000000 in
set_option maxRecDepth 100000 in
theorem live13_no (x : PGr) (vp va vb : Value) (w : World) (h : GrL w vp va vb x) (hs : SmG x) (hf : fitsB x = false) :
    Calls Tryd.prog 11 #[grV x vp va vb] w fun e w' => e = .returned (.tuple #[.slice none 0 0, .int .i64 1]) ∧ Below w.heap.size w w' := by
  obtain ⟨pp, pc, rfl⟩ := h.params.form
  obtain ⟨ap, ac, rfl⟩ := h.arrays.form
  have HFI := Lib.hid (fun (W : World) (hW : Below w.heap.size w W) => fits13_any x _ _ _ W (h.below hW) hs)
  obtain ⟨bp, bc, rfl⟩ := h.blocks.form
  rw [hf] at HFI
  unfold grV at HFI ⊢
  have HB1 := Lib.hid (Graph.below_alloc w (.cells #[.slice pp x.params.length pc, .int .i64 x.temps, .slice ap x.arrays.length ac, .slice bp x.blocks.length bc] 26))
  clear h hs hf
  go_enter Tryd.func11, Tryd.ntmps11
  go_wp2_with (
    go_at_call 17
    refine (HFI.out _ HB1.out).mono ?_
    rintro e w5 ⟨rfl, hb5⟩
    have HB5 := Lib.hid hb5
    clear hb5)
  go_ret2
  exact ⟨rfl, below_then HB1.out HB5.out⟩
end Go.Proofs.YtcijaaiopfbffaaDoor.Live
namespace Go.Proofs.YtcijaaiopfbffaaDoor.Live
open Go.RowKit Go.Proofs.YtcijaaiopfbffaaDoor.Graph Go.Shelf

/-- Rows of one's own in a row of one's own, all from block B on. -/
def RowsO (w : World) (B : Nat) (v : Value) (n : Nat) (A : Nat → List Nat) : Prop :=
  ∃ vs : List Value, w.ownsRow B 22 1 v n vs ∧ vs.length = n ∧ ∀ j u, vs[j]? = some u → w.ownsRow B 3 1 u (A j).length ((A j).map iN)
theorem own_grown13 {w w7 : World} {B n B' m : Nat} {v u : Value} {xs ys : List Value} (hr : w.ownsRow B 3 1 v n xs) (ho : w.ownsRow B' 22 1 u m ys) (hg : w.grownBy w7 u.ownBlock) : w7.ownsRow B 3 1 v n xs := by
  refine hr.kept hg ?_
  obtain ⟨_, ⟨rfl, _⟩ | ⟨g, cap, cur, rfl, _, h1, _⟩⟩ := hr
  · exact .inl rfl
  obtain ⟨_, ⟨rfl, _⟩ | ⟨g', cap', cur', rfl, _, h2, _⟩⟩ := ho
  · right; simp [Value.ownBlock]
  right
  intro e
  simp [Value.ownBlock] at e
  subst e
  rw [h1] at h2
  injection h2 with h2
  injection h2 with _ h2
  exact absurd h2 (by decide)
theorem own_base13 {w : World} {B B' n : Nat} {e : TypeId} {v : Value} {xs : List Value} (h : w.ownsRow B e 1 v n xs) (hB : B' ≤ B) : w.ownsRow B' e 1 v n xs := by
  obtain ⟨h1, h2 | ⟨g, cap, cur, rfl, hg0, hg, h3⟩⟩ := h
  · exact ⟨h1, .inl h2⟩
  · exact ⟨h1, .inr ⟨g, cap, cur, rfl, Nat.le_trans hB hg0, hg, h3⟩⟩
theorem RowsO.rows {w : World} {B : Nat} {v : Value} {x : PGr} {n : Nat} (h : RowsO w B v n (needN x)) (hn : n = x.blocks.length) (hb : n ≤ 20000) : RowsR w v (liveL x) := by
  obtain ⟨vs, h1, h2, h3⟩ := h
  have hl : (liveL x).length = n := by unfold liveL; rw [List.length_map, List.length_range, hn]
  unfold RowsR
  rw [hl]
  obtain ⟨_, ⟨rfl, rfl⟩ | ⟨g, cap, cur, rfl, _, hg, hc1, hc2, hc3, hx⟩⟩ := h1
  · exact .inl ⟨rfl, _, _, rfl⟩
  · rcases Nat.eq_zero_or_pos n with h0 | h0
    · exact .inl ⟨h0, _, _, by rw [h0]⟩
    · refine .inr ⟨g, 0, cap, rfl, h0, ⟨hc1, by unfold maxLen at hc2; omega⟩, (Array.getElem?_eq_some_iff.1 hg).1, fun i hi y hy => ?_⟩
      have hi2 : i < vs.length := by omega
      obtain ⟨u, hu⟩ : ∃ u, vs[i]? = some u := ⟨_, List.getElem?_eq_getElem hi2⟩
      refine ⟨u, ?_, ?_⟩
      · have h4 := hu
        rw [← hx, List.getElem?_take, if_pos (by omega)] at h4
        rw [Nat.mul_one, Nat.zero_add]
        simp only [World.cell?, hg]
        rw [Array.getElem?_toList] at h4
        exact h4
      · have : y = needL x i := by
          unfold liveL at hy
          rw [List.getElem?_map, List.getElem?_range (by omega)] at hy
          injection hy with hy; exact hy.symm
        rw [this]
        exact ints_own (h3 i _ hu)
theorem filt_succ (p : Nat → Bool) (t : Nat) : (List.range (t + 1)).filter p = (List.range t).filter p ++ (if p t then [t] else []) := by
  rw [List.range_succ, List.filter_append]
  congr 1
  cases h : p t <;> simp [h]
open Classical in
theorem filt_need {x : PGr} {A : Nat → Bool} {T k : Nat} (hT : x.temps = T) (h : ∀ t, t < T → (A t = true ↔ Need x k (t : Int))) : (List.range T).filter A = needN x k := by
  unfold needN
  rw [hT, show (T : Int).toNat = T by omega]
  refine List.filter_congr fun t ht => ?_
  have := h t (List.mem_range.1 ht)
  rw [Bool.eq_iff_iff, this, decide_eq_true_eq]
theorem filt_len (A : Nat → Bool) (t : Nat) : ((List.range t).filter A).length ≤ t := by
  have := List.length_filter_le A (List.range t)
  rw [List.length_range] at this
  exact this
set_option maxHeartbeats 8000000 in
set_option maxRecDepth 100000 in
theorem live13_ok (x : PGr) (vp va vb : Value) (w : World) (h : GrL w vp va vb x) (hs : SmG x) (hf : fitsB x = true) :
    Calls Tryd.prog 11 #[grV x vp va vb] w fun e w' => ∃ v, e = .returned (.tuple #[v, .int .i64 0]) ∧ RowsO w' w.heap.size v x.blocks.length (needN x) ∧ Below w.heap.size w w' := by
  obtain ⟨hn1, hn2, ht1, ht2⟩ : 1 ≤ x.blocks.length ∧ x.blocks.length ≤ 20000 ∧ 0 ≤ x.temps ∧ x.temps ≤ 8000 := by
    unfold fitsB at hf
    rw [Bool.and_eq_true, decide_eq_true_eq] at hf
    exact hf.1
  obtain ⟨T, hT⟩ : ∃ T : Nat, x.temps = T := ⟨x.temps.toNat, by omega⟩
  have HTE := Lib.hid hT
  obtain ⟨pp, pc, rfl⟩ := h.params.form
  obtain ⟨ap, ac, rfl⟩ := h.arrays.form
  have HFI := Lib.hid (fun (W : World) (hW : Below w.heap.size w W) => fits13_any x _ _ _ W (h.below hW) hs)
  have HNE := Lib.hid (fun (W : World) (hW : Below w.heap.size w W) => needed13_any x _ _ _ W (h.below hW) hs T hT hf)
  obtain ⟨bp, bc, rfl⟩ := h.blocks.form
  rw [hf] at HFI
  unfold grV at HFI HNE ⊢
  obtain ⟨n, hn⟩ : ∃ n, n = x.blocks.length := ⟨_, rfl⟩
  have HN := Lib.hid hn
  rw [← hn] at HFI HNE ⊢
  rw [hT] at HFI HNE ⊢
  have t0 : (0 : Int) ≤ T := by omega
  have HT2 : Hid (T ≤ 20000 ∧ T ≤ 8000) := Lib.hid ⟨by omega, by omega⟩
  have HNN : Hid (1 ≤ n ∧ n ≤ 20000) := Lib.hid ⟨by omega, by omega⟩
  have HX1 : Hid ((w.alloc (.cells #[.slice pp x.params.length pc, .int .i64 (T : Int), .slice ap x.arrays.length ac, .slice bp n bc] 26)).heap[w.heap.size]? = some (.cells #[.slice pp x.params.length pc, .int .i64 (T : Int), .slice ap x.arrays.length ac, .slice bp n bc] 26 (0, 0))) := Lib.hid (heap_new w _)
  have HB1 := Lib.hid (Graph.below_alloc w (.cells #[.slice pp x.params.length pc, .int .i64 (T : Int), .slice ap x.arrays.length ac, .slice bp n bc] 26))
  obtain ⟨i0, hi, hz0, hz1, hz2⟩ := info_parts info_int
  obtain ⟨i1, hi1, hy0, hy1, hy2⟩ := info_parts info_ints28
  have HI := Lib.hid hi
  have HI1 := Lib.hid hi1
  clear h hs hT hf hn1 hn2 ht1 ht2 hn hi hi1
  go_enter Tryd.func11, Tryd.ntmps11
  go_upto_region 1 with (fail)
  generalize w.alloc (.cells #[.slice pp x.params.length pc, .int .i64 (T : Int), .slice ap x.arrays.length ac, .slice bp n bc] 26) = W1 at HX1 HB1 ⊢
  have HBX : Hid (∀ W, Below W1.heap.size W1 W → W.cell? ⟨w.heap.size, 0, none⟩ = some (.slice pp x.params.length pc) ∧ W.cell? ⟨w.heap.size, 1, none⟩ = some (.int .i64 (T : Int)) ∧ W.cell? ⟨w.heap.size, 2, none⟩ = some (.slice ap x.arrays.length ac) ∧ W.cell? ⟨w.heap.size, 3, none⟩ = some (.slice bp n bc)) := Lib.hid (fun W hW => by
    have hb := (hW.block _ (Array.getElem?_eq_some_iff.1 HX1.out).1).trans HX1.out
    exact ⟨(cell_of_block hb (k := 0) rfl).1, (cell_of_block hb (k := 1) rfl).1, (cell_of_block hb (k := 2) rfl).1, (cell_of_block hb (k := 3) rfl).1⟩)
  obtain ⟨y0, y1, y2, y3⟩ := HBX.out W1 (Below.refl _ _)
  go_upto_region 7 with (first
    | (go_at_call 17
       refine (HFI.out _ HB1.out).mono ?_
       rintro e w2 ⟨rfl, hb2⟩
       have HB2 := Lib.hid hb2
       obtain ⟨z0, z1, z2, z3⟩ := HBX.out w2 hb2
       clear hb2)
    | (go_at_call 34
       refine (HNE.out _ (below_then HB1.out HB2.out)).mono ?_
       rintro e w5 ⟨ab, ca, A, rfl, hca1, hca2, hA, hA2, hb5⟩
       have HA := Lib.hid hA
       have HA2 := Lib.hid hA2
       have HB5 : Hid (Below W1.heap.size W1 w5) := Lib.hid (below_then HB2.out hb5)
       have HCA := Lib.hid (And.intro hca1 hca2)
       clear hA hA2 hb5 hca1 hca2))
  clear y0 y1 y2 y3 z0 z1 z2 z3 HFI HNE
  go_loopw [6, 7] (fun o i wr => ∃ (k : Nat) (vs : List Value), k ≤ n ∧ i = .int .i64 k ∧ Hid (vs.length = k ∧ wr.ownsRow w5.heap.size 22 1 o k vs) ∧ Hid (∀ j u, vs[j]? = some u → wr.ownsRow w5.heap.size 3 1 u (needN x j).length ((needN x j).map iN)) ∧ Hid (Below w5.heap.size w5 wr)) (fun _ i _ => n - (intOf i).toNat)
  case atStart => exact ⟨0, [], Nat.zero_le _, rfl, Lib.hid ⟨rfl, World.ownsRow_nil _ _ _ _⟩, Lib.hid (fun j u hj => by simp at hj), Lib.hid (Below.refl _ _)⟩
  case round =>
    obtain ⟨k, vs, hk, rfl, HO, HR, HB⟩ := hrel
    obtain ⟨y0, y1, y2, y3⟩ := HBX.out wr (below_then HB5.out HB.out)
    obtain ⟨po, co, rfl, ho63⟩ := own_form HO.out.2
    by_cases hkn : k < n
    · have ki : (k : Int) < n := by omega
      have k0 : (0 : Int) ≤ k := by omega
      have k4 : (k : Int) < 20000 := by have := HNN.out; omega
      have HK : Hid (k < n) := Lib.hid hkn
      have HA5 : Hid (AtS wr ab n T A) := Lib.hid (HA.out.below HB.out)
      obtain ⟨B8, hB8⟩ : ∃ B8, B8 = wr.heap.size := ⟨_, rfl⟩
      have HB8 := Lib.hid hB8
      have HBB : Hid (Below W1.heap.size W1 wr) := Lib.hid (below_then HB5.out HB.out)
      clear hB8 ho63 hkn
      go_upto_region 11 with (fail)
      clear y0 y1 y2 y3
      go_loopw [8, 9] (fun o i wq => ∃ (t m : Nat), t ≤ T ∧ i = .int .i64 t ∧ Hid (m = ((List.range t).filter (A k)).length ∧ wq.ownsRow B8 3 1 o m (((List.range t).filter (A k)).map iN)) ∧ Hid (Below wr.heap.size wr wq)) (fun _ i _ => T - (intOf i).toNat)
      case atStart => exact ⟨0, 0, Nat.zero_le _, rfl, Lib.hid ⟨rfl, World.ownsRow_nil _ _ _ _⟩, Lib.hid (Below.refl _ _)⟩
      case round =>
        obtain ⟨t, m, ht, rfl, HRW, HW⟩ := hrel
        obtain ⟨y0, y1, y2, y3⟩ := HBX.out wr (below_then HBB.out HW.out)
        obtain ⟨pr, cr, rfl, hr63⟩ := own_form HRW.out.2
        have HM8 : Hid (m ≤ 8000) := Lib.hid (by have := filt_len (A k) t; have := HRW.out.1; have := HT2.out; omega)
        by_cases htT : t < T
        · obtain ⟨gb, hcb, hrb⟩ := (HA5.out.below HW.out).cell HK.out
          have hc2 := hrb.cell htT
          have ti : (t : Int) < T := by omega
          have t00 : (0 : Int) ≤ t := by omega
          have t3 : (T : Int) ≤ 9223372036854775807 := by have := HT2.out; omega
          have a1 : (n : Int) ≤ ca := by have := HCA.out.1; omega
          have a2 : (ca : Int) ≤ 9223372036854775807 := by have := HCA.out.2; omega
          have HTT : Hid (t < T) := Lib.hid htT
          have HFS := Lib.hid (filt_succ (A k) t)
          clear hrb htT hr63
          cases ha : A k t
          · rw [ha] at hc2
            rw [ha] at HFS
            clear ha
            go_wp2
            exact ⟨⟨t + 1, m, by have := HTT.out; omega, by go_num, Lib.hid (by rw [HFS.out, if_neg (by decide), List.append_nil]; exact HRW.out), HW⟩, by have := HTT.out; simp [intOf]; omega⟩
          · rw [ha] at hc2
            rw [ha] at HFS
            clear ha
            have HNW := Lib.hid (news_one (w := wr) (x := (t : Int)) (H := wr.heap.size) (t := 3) rfl)
            have HO4 : Hid ((wr.alloc (.cells #[.int .i64 (t : Int)] 3)).ownsRow B8 3 1 (.slice pr m cr) m (((List.range t).filter (A k)).map iN)) := Lib.hid (own_below HRW.out.2 (Graph.below_alloc wr _))
            have HSB : Hid (B8 ≤ (wr.alloc (.cells #[.int .i64 (t : Int)] 3)).heap.size) := Lib.hid (by rw [World.size_alloc, HB8.out]; have := HW.out.size; omega)
            have HB4 : Hid (Below B8 _ (wr.alloc (.cells #[.int .i64 (t : Int)] 3))) := Lib.hid (by rw [HB8.out]; exact below_then HW.out (Graph.below_alloc wr _))
            go_wp2_with (
              at_builtin
              go_loud (refine wpList_append_lies _ (by rfl) _ _ 22 (by rfl) B8 3 i0 _ 1 8 Tryd.underlying22 HI.out hz0 hz1 hz2 rfl (by omega) _ m _ (by rfl) HO4.out ⟨wr.heap.size, 0, none⟩ 1 1 [.int .i64 (t : Int)] (by first | rfl | simp) rfl HNW.out (by simp [Value.oneCell']) (by omega) (by unfold maxLen; have := HM8.out; omega) (by have := HM8.out; omega) HSB.out _ rfl ?_)
              intro g5 c5 w7 h5 h6 h7 h8
              have H5 := Lib.hid h5
              have HB7 := Lib.hid (Below.grown HB4.out h6 HSB.out (fun q hq => (HO4.out.lt q hq).1))
              clear h5 h6 h7 h8)
            exact ⟨⟨t + 1, m + 1, by have := HTT.out; omega, by go_num, Lib.hid (by rw [HFS.out, if_pos rfl, List.length_append, List.map_append]; exact ⟨by rw [← HRW.out.1]; rfl, H5.out⟩), Lib.hid (by have := HB7.out; rw [HB8.out] at this; exact this)⟩, by have := HTT.out; simp [intOf]; omega⟩
        · have htT2 : t = T := by omega
          have ti : ¬ ((t : Int) < T) := by omega
          have HFN : Hid ((List.range t).filter (A k) = needN x k) := Lib.hid (by rw [htT2]; exact filt_need HTE.out (fun u hu => HA2.out k u (by have := HK.out; omega) hu))
          rw [HFN.out] at HRW
          have HROW : Hid (wr.ownsRow w5.heap.size 3 1 (.slice pr m cr) (needN x k).length ((needN x k).map iN)) := Lib.hid (by rw [← HRW.out.1]; exact own_base13 HRW.out.2 (by rw [HB8.out]; exact HB.out.size))
          have HW2 : Hid (Below w5.heap.size w5 wr) := Lib.hid (below_then HB.out HW.out)
          have HNW := Lib.hid (news_row (w := wr) (v := .slice pr m cr) (H := wr.heap.size) (t := 22) rfl)
          have HO4 : Hid ((wr.alloc (.cells #[.slice pr m cr] 22)).ownsRow w5.heap.size 22 1 (.slice po k co) k vs) := Lib.hid (own_below (own_below HO.out.2 HW.out) (Graph.below_alloc wr _))
          have HR4 : Hid (∀ j u, (vs ++ [.slice pr m cr])[j]? = some u → (wr.alloc (.cells #[.slice pr m cr] 22)).ownsRow w5.heap.size 3 1 u (needN x j).length ((needN x j).map iN)) := Lib.hid (fun j u hj => by
            by_cases hj2 : j < vs.length
            · rw [List.getElem?_append_left hj2] at hj
              exact own_below (own_below (HR.out j u hj) HW.out) (Graph.below_alloc wr _)
            · rw [List.getElem?_append_right (by omega)] at hj
              have hj3 : j - vs.length = 0 := by
                have := (List.getElem?_eq_some_iff.1 hj).1
                simp at this; omega
              rw [hj3] at hj
              injection hj with hj
              subst hj
              have : j = k := by have := HO.out.1; omega
              subst this
              exact own_below HROW.out (Graph.below_alloc wr _))
          have HB4 : Hid (Below w5.heap.size w5 (wr.alloc (.cells #[.slice pr m cr] 22))) := Lib.hid (below_then HW2.out (Graph.below_alloc wr _))
          have HK2 : Hid (k ≤ 20000) := Lib.hid (by have := HK.out; have := HNN.out; omega)
          clear hr63 htT
          go_wp2_with (
            at_builtin
            go_loud (refine wpList_append_lies _ (by rfl) _ _ 28 (by rfl) w5.heap.size 22 i1 _ 1 24 Tryd.underlying28 HI1.out hy0 hy1 hy2 rfl (by omega) _ k _ (by rfl) HO4.out ⟨wr.heap.size, 0, none⟩ 1 1 [.slice pr m cr] (by first | rfl | simp) rfl HNW.out (by simp [Value.oneCell']) (by omega) (by unfold maxLen; have := HK2.out; omega) (by have := HK2.out; omega) HB4.out.size _ rfl ?_)
            intro g5 c5 w7 h5 h6 h7 h8
            have H5 := Lib.hid h5
            have HR7 : Hid (∀ j u, (vs ++ [.slice pr m cr])[j]? = some u → w7.ownsRow w5.heap.size 3 1 u (needN x j).length ((needN x j).map iN)) := Lib.hid (fun j u hj => own_grown13 (HR4.out j u hj) HO4.out h6)
            have HB7 : Hid (Below w5.heap.size w5 w7) := Lib.hid (Below.grown HB4.out h6 HB4.out.size (fun q hq => (HO4.out.lt q hq).1))
            clear h5 h6 h7 h8)
          exact ⟨⟨k + 1, vs ++ [.slice pr m cr], by have := HK.out; omega, by go_num, Lib.hid ⟨by rw [List.length_append, HO.out.1]; rfl, H5.out⟩, HR7, HB7⟩, by have := HK.out; simp [intOf]; omega⟩
    · have hkn2 : k = n := by omega
      have ki : ¬ ((k : Int) < n) := by omega
      subst hkn2
      have HLE : Hid (w.heap.size ≤ w5.heap.size) := Lib.hid (Nat.le_trans HB1.out.size HB5.out.size)
      clear ho63 hkn
      go_wp2
      go_ret2
      exact ⟨_, rfl, ⟨vs, own_base13 HO.out.2 HLE.out, HO.out.1, fun j u hj => own_base13 (HR.out j u hj) HLE.out⟩, below_then HB1.out (below_then HB5.out HB.out)⟩
end Go.Proofs.YtcijaaiopfbffaaDoor.Live
