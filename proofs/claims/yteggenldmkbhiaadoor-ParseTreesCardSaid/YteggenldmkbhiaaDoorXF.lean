/- The law ParseTrees: the walk. -/
import Derived.Test.YteggenldmkbhiaaDoorXE
import Derived.Deep.OwnRows
namespace Go.Proofs.YteggenldmkbhiaaDoor
open Go.RowKit

theorem parseAll_bad {l : List Parse.PT} (h : (Parse.parseAll l).2.2 ≠ 0) : (Parse.parseAll l).1 = [] := by
  unfold Parse.parseAll at h ⊢
  split
  · rename_i he
    rw [if_pos he] at h
    split
    · rename_i hr; rw [hr] at h; exact absurd rfl h
    · rfl
    · rfl
  · rfl
/-- How often x is among the kids of the first k nodes and the first q kids of the next. -/
def kidsTo (ns : List Parse.PN) (k q : Nat) : List Nat := (ns.take k).flatMap (·.kids) ++ (((ns[k]?).map (·.kids)).getD []).take q
def cntTo (ns : List Parse.PN) (k q x : Nat) : Nat := (kidsTo ns k q).count x
theorem kidsTo_zero (ns : List Parse.PN) (k : Nat) : kidsTo ns k 0 = (ns.take k).flatMap (·.kids) := by
  unfold kidsTo; rw [List.take_zero, List.append_nil]
theorem kidsTo_snoc {ns : List Parse.PN} {k q y : Nat} {n : Parse.PN} (hn : ns[k]? = some n) (hy : n.kids[q]? = some y) : kidsTo ns k (q + 1) = kidsTo ns k q ++ [y] := by
  unfold kidsTo
  rw [hn]
  simp only [Option.map_some, Option.getD_some]
  rw [List.take_add_one, hy, List.append_assoc]
  rfl
theorem kidsTo_full {ns : List Parse.PN} {k : Nat} {n : Parse.PN} (hn : ns[k]? = some n) : kidsTo ns k n.kids.length = kidsTo ns (k + 1) 0 := by
  rw [kidsTo_zero]
  unfold kidsTo
  rw [hn]
  simp only [Option.map_some, Option.getD_some]
  rw [List.take_length, List.take_add_one, hn]
  simp
theorem kidsTo_all (ns : List Parse.PN) : kidsTo ns ns.length 0 = ns.flatMap (·.kids) := by rw [kidsTo_zero, List.take_length]
theorem cnt_snoc {ns : List Parse.PN} {k q y : Nat} {n : Parse.PN} (hn : ns[k]? = some n) (hy : n.kids[q]? = some y) (x : Nat) : cntTo ns k (q + 1) x = cntTo ns k q x + (if x = y then 1 else 0) := by
  unfold cntTo
  rw [kidsTo_snoc hn hy, List.count_append, List.count_singleton]
  congr 1
  by_cases h : x = y
  · subst h; simp
  · have : (y == x) = false := by rw [beq_eq_false_iff_ne]; exact fun e => h e.symm
    rw [this, if_neg h]; rfl
theorem cnt_le (ns : List Parse.PN) (k q x : Nat) : cntTo ns k q x ≤ (ns.flatMap (·.kids)).count x := by
  unfold cntTo kidsTo
  rw [List.count_append]
  cases h : ns[k]? with
  | none =>
    simp only [Option.map_none, Option.getD_none, List.take_nil, List.count_nil, Nat.add_zero]
    conv => rhs; rw [← List.take_append_drop k ns, List.flatMap_append, List.count_append]
    omega
  | some n =>
    simp only [Option.map_some, Option.getD_some]
    have e : ns.drop k = n :: ns.drop (k + 1) := by
      obtain ⟨h1, h2⟩ := List.getElem?_eq_some_iff.1 h
      rw [← h2]; exact List.drop_eq_getElem_cons h1
    have h3 := (List.take_sublist q n.kids).count_le x
    conv => rhs; rw [← List.take_append_drop k ns, e, List.flatMap_append, List.flatMap_cons, List.count_append, List.count_append]
    omega
theorem cnt_forest {n : Nat} {ns : List Parse.PN} (hf : Parse.Forest [n] ns) (hn : ns.length = n + 1) {x : Nat} (hx : x ≤ n) : (ns.flatMap (·.kids)).count x = if x = n then 0 else 1 := by
  have h := hf.perm.count_eq x
  rw [List.count_append, hn, List.count_singleton] at h
  have h2 : (List.range (n + 1)).count x = 1 := by
    rw [List.nodup_range.count, if_pos (List.mem_range.2 (by omega))]
  rw [h2] at h
  by_cases e : x = n
  · subst e; rw [if_pos rfl]; simp at h; simpa using h
  · rw [if_neg e]
    have : (n == x) = false := by rw [beq_eq_false_iff_ne]; exact fun h => e h.symm
    rw [this] at h; simpa using h
theorem info3' : (Tryd.prog.info? 3).map (fun i => (i.zero, i.size, i.bytes)) = some (some (.int .i64 0), 1, 8) := by kernel_rfl

set_option maxHeartbeats 4000000 in
set_option maxRecDepth 100000 in
theorem tre_bad (s : ByteArray) (w : World) (ho : Parse.OpsAt w) (h : (lexAll s.data.toList).2.2 ≠ 0) :
    Calls Tryd.prog 3 #[.string s] w fun e w' => e = .returned (.bool true) ∧ Below w.heap.size w w' := by
  have hl := tokens_any s
  rw [show decide ((lexAll s.data.toList).2.2 = 0) = false by simp [h]] at hl
  have HL := Lib.hid hl
  have HO := Lib.hid ho
  clear hl ho h
  go_enter Tryd.func3, Tryd.ntmps3
  go_wp2_with fail
  refine (HL.out _).mono ?_
  rintro e w1 ⟨v, rfl, hT, hb⟩
  have HB := Lib.hid hb
  have HO1 := Lib.hid (OpsAt.below HO.out hb)
  clear hT hb
  go_wp2_with fail
  refine (live_any _ HO1.out).mono ?_
  rintro e w2 ⟨rfl, hb2⟩
  go_wp2
  go_ret
  exact ⟨rfl, HB.out.trans (hb2.mono HB.out.size)⟩

set_option maxHeartbeats 4000000 in
set_option maxRecDepth 100000 in
theorem tre_not (s : ByteArray) (w : World) (ho : Parse.OpsAt w) (ts : List PTok) (us : List Tok) (hs : Src s.data.toList ts us) (h : (Parse.parseAll (ts.map ptOf)).2.2 ≠ 0) :
    Calls Tryd.prog 3 #[.string s] w fun e w' => e = .returned (.bool true) ∧ Below w.heap.size w w' := by
  have hl := tokens_any s
  rw [hs.all] at hl
  simp only [decide_true] at hl
  have hpz := fun (w : World) (B : Nat) (v : Value) (hT : Toks w B v ts) (ho : Parse.OpsAt w) => parse_toks hT ho hs.endsOnce hs.small
  have h0 := parseAll_bad h
  obtain ⟨R, hR⟩ : ∃ R, R = Parse.parseAll (ts.map ptOf) := ⟨_, rfl⟩
  rw [← hR] at hpz h h0
  have e1 : (R.2.2 != 0) = true := by rw [bne_iff_ne]; exact h
  have HL := Lib.hid hl
  have HO := Lib.hid ho
  have HP := Lib.hid hpz
  have H0 := Lib.hid h0
  clear hl ho h hpz hR hs h0
  go_enter Tryd.func3, Tryd.ntmps3
  go_wp2_with fail
  refine (HL.out _).mono ?_
  rintro e w1 ⟨v, rfl, hT, hb⟩
  obtain ⟨ga, ca, hv⟩ := tok_form hT
  subst hv
  have HB := Lib.hid hb
  have HT := Lib.hid (TokRow.toks hT)
  have HO1 := Lib.hid (OpsAt.below HO.out hb)
  clear hT hb
  go_wp2_with fail
  refine (HP.out _ _ _ HT.out HO1.out).mono ?_
  rintro e w2 ⟨nv, rfl, hN, hb2⟩
  obtain ⟨p, c, hv⟩ := (nodes_r hN).form
  subst hv
  rw [H0.out]
  simp only [List.length_nil]
  have HO2 := Lib.hid (OpsAt.below HO1.out hb2)
  have HB2 := Lib.hid (HB.out.trans (hb2.mono HB.out.size))
  clear hN hb2
  have HO3 : Hid (∀ (o : Obj), Parse.OpsAt (w2.alloc o) ∧ Below w.heap.size w (w2.alloc o)) := Lib.hid fun o => ⟨OpsAt.below HO2.out ((Below.refl _ _).alloc (Nat.le_refl _) _), HB2.out.alloc HB2.out.size _⟩
  go_wp2_with fail
  refine (live_any _ (HO3.out _).1).mono ?_
  rintro e w3 ⟨rfl, hb3⟩
  go_wp2
  go_ret
  exact ⟨rfl, (HO3.out _).2.trans (hb3.mono (HO3.out _).2.size)⟩
end Go.Proofs.YteggenldmkbhiaaDoor
namespace Go.Proofs.YteggenldmkbhiaaDoor
open Go.RowKit

def cntV (ns : List Parse.PN) (k q : Nat) : Nat → Value := fun x => .int .i64 ((cntTo ns k q x : Nat) : Int)

set_option maxHeartbeats 8000000 in
set_option maxRecDepth 100000 in
theorem tre_ok (s : ByteArray) (w : World) (ho : Parse.OpsAt w) (ts : List PTok) (us : List Tok) (hs : Src s.data.toList ts us) (h : (Parse.parseAll (ts.map ptOf)).2.2 = 0) :
    Calls Tryd.prog 3 #[.string s] w fun e w' => e = .returned (.bool true) ∧ Below w.heap.size w w' := by
  have hl := tokens_any s
  rw [hs.all] at hl
  simp only [decide_true] at hl
  have hpz := fun (w : World) (B : Nat) (v : Value) (hT : Toks w B v ts) (ho : Parse.OpsAt w) => parse_toks hT ho hs.endsOnce hs.small
  obtain ⟨X, b, hpa, hb40, hlen, hfo⟩ := Parse.trees h
  rw [hpa] at hpz
  obtain ⟨ns, hns⟩ : ∃ ns, ns = X ++ [b] := ⟨_, rfl⟩
  obtain ⟨n, hn⟩ : ∃ n, n = X.length := ⟨_, rfl⟩
  obtain ⟨N, hN⟩ : ∃ N, N = ts.length := ⟨_, rfl⟩
  have hNs : ns.length = n + 1 := by rw [hns, hn]; simp
  have hbn : ns[n]? = some b := by rw [hns, hn]; simp
  rw [← hns, List.length_map, ← hN, hNs] at hlen
  rw [← hns, ← hn] at hfo
  have hN4 : N ≤ 4000 := by have := hs.len; have := hs.many; omega
  have hn4 : n ≤ 4000 := by omega
  rw [← hns] at hpz
  have hmk := run_make_row' (P := Tryd.prog) 32 3 (.int .i64 0) 8 Tryd.underlying32 info3' rfl .i64 .i64 (n + 1) (by omega) (by omega)
  have hmk' : ∀ w : World, (Instr.makeSlice 32 (.int .i64 ((n : Int) + 1)) (.int .i64 ((n : Int) + 1))).run Tryd.prog w = .ok (.slice (some ⟨w.heap.size, 0, none⟩) (n + 1) (n + 1)) (w.alloc (.cells (madeCells #[.int .i64 0] (n + 1)) 3)) := fun w => by
    have := hmk w; simpa using this
  have HL := Lib.hid hl
  have HO := Lib.hid ho
  have HP := Lib.hid hpz
  have HF := Lib.hid hfo
  have HNS := Lib.hid hNs
  have HBN := Lib.hid hbn
  have HN := Lib.hid hN
  have H40 := Lib.hid hb40
  clear hl ho h hpz hs hpa hb40 hfo hns hn hNs hbn hN hmk
  go_enter Tryd.func3, Tryd.ntmps3
  go_wp2_with fail
  refine (HL.out _).mono ?_
  rintro e w1 ⟨v, rfl, hT, hb⟩
  obtain ⟨ga, ca, hv⟩ := tok_form hT
  rw [← HN.out] at hv
  subst hv
  have HB := Lib.hid hb
  have HT := Lib.hid (TokRow.toks hT)
  have HO1 := Lib.hid (OpsAt.below HO.out hb)
  clear hT hb
  go_wp2_with fail
  refine (HP.out _ _ _ HT.out HO1.out).mono ?_
  rintro e w2 ⟨nv, rfl, hN2, hb2⟩
  obtain ⟨g, c, hv, hcap, hgl⟩ := (nodes_r hN2).form2 (by rw [HNS.out]; omega)
  subst hv
  rw [HNS.out] at hcap
  have hnode := node_at (nodes_r hN2) rfl HBN.out
  obtain ⟨_, _, ⟨d0, _⟩, _⟩ := hnode
  rw [H40.out] at d0
  simp only [HNS.out]
  have HB2 := Lib.hid (HB.out.trans (hb2.mono HB.out.size))
  have HR2 := Lib.hid (nodes_r hN2)
  clear hN2 hb2
  obtain ⟨hc1, hc2⟩ := hcap
  have i0 : (n : Int) ≤ 4000 := by omega
  have i1 : (N : Int) ≤ 4000 := by omega
  have i2 : (n : Int) + 1 ≤ N := by omega
  have b1 : ((n : Int) + 1 == 0) = false := by rw [beq_eq_false_iff_ne]; omega
  have b2 : decide (2 * (N : Int) < (n : Int) + 1) = false := by rw [decide_eq_false_iff_not]; omega
  go_wp2
  obtain ⟨W5, hW5⟩ : ∃ W5, W5 = w2.alloc (.cells #[.slice (some ⟨g, 0, none⟩) (n + 1) c] 28) := ⟨_, rfl⟩
  obtain ⟨kb, hkb⟩ : ∃ kb, kb = w2.heap.size + 1 := ⟨_, rfl⟩
  have hk5 : W5.heap.size = kb := by rw [hW5, World.size_alloc, hkb]
  rw [← hW5, ← hkb]
  have r5 : W5.cell? ⟨w2.heap.size, 0, none⟩ = some (.slice (some ⟨g, 0, none⟩) (n + 1) c) := by rw [hW5]; exact cell_of_one (heap_alloc_new w2 _)
  have hb25 : Below w2.heap.size w2 W5 := by rw [hW5]; exact (Below.refl _ _).alloc (Nat.le_refl _) _
  have HW5 := Lib.hid (HB2.out.trans (hb25.mono HB2.out.size))
  have HO5 := Lib.hid (OpsAt.below HO.out HW5.out)
  have HR5 := Lib.hid (HR2.out.below hb25)
  have l2 : w2.heap.size < W5.heap.size := by rw [hk5, hkb]; omega
  have lg : g < W5.heap.size := Nat.lt_of_lt_of_le hgl hb25.size
  have hst : (W5.alloc (.cells (madeCells #[.int .i64 0] (n + 1)) 3)).rowIs kb 3 (n + 1) (cntV ns 0 0) := by
    have h0 := World.rowIs_made W5 (.int .i64 0) (n + 1) 3
    rw [hk5] at h0
    refine h0.congr (fun x _ => ?_)
    unfold cntV cntTo
    rw [kidsTo_zero]
    simp
  have HST := Lib.hid hst
  have HK5 := Lib.hid hk5
  have HKB := Lib.hid hkb
  clear hst hW5 hk5 hkb hb25 hgl d0
  go_loopw [10] (fun i wr => ∃ k : Nat, k ≤ n + 1 ∧ i = .int .i64 k ∧ Hid (wr.rowIs kb 3 (n + 1) (cntV ns k 0)) ∧ Below W5.heap.size W5 wr) (fun i _ => n + 1 - (intOf i).toNat)
  case atStart => exact ⟨0, Nat.zero_le _, rfl, HST, (Below.refl _ _).alloc (Nat.le_refl _) _⟩
  case round =>
    obtain ⟨k, hk, rfl, HRow, hbw⟩ := hrel
    have s5 := (hbw.cell (p := ⟨w2.heap.size, 0, none⟩) l2).trans r5
    have z2 := Nat.lt_of_lt_of_le l2 hbw.size
    have zg := Nat.lt_of_lt_of_le lg hbw.size
    by_cases hlt : k < n + 1
    · obtain ⟨x, hx⟩ : ∃ x, ns[k]? = some x := ⟨_, List.getElem?_eq_getElem (by rw [HNS.out]; exact hlt)⟩
      have hR5' : NodesR W5 (.slice (some ⟨g, 0, none⟩) (n + 1) c) ns := by have := HR5.out; rwa [HNS.out] at this
      obtain ⟨px, cx, ⟨_, _, _, _, _, _, _, a7⟩, hkx⟩ := node_at hR5' rfl hx
      obtain ⟨hpw, hkk⟩ := HF.out.kids k x hx
      obtain ⟨m, hm⟩ : ∃ m, m = x.kids.length := ⟨_, rfl⟩
      rw [← hm] at a7 hkx
      have hm4 : m ≤ 4000 := by
        have h1 : x.kids.Nodup := hpw.imp (fun h => Nat.ne_of_lt h)
        have h2 : x.kids.length ≤ (List.range k).length := h1.length_le_of_subset (fun y hy => List.mem_range.2 (hkk y hy))
        rw [List.length_range] at h2
        omega
      have b7 := (hbw.cell (p := ⟨g, k * 8 + 7, none⟩) lg).trans a7
      have i3 : (0 : Int) ≤ k := by omega
      have i4 : (k : Int) < (n : Int) + 1 := by omega
      have i5 : (m : Int) ≤ 4000 := by omega
      have HX := Lib.hid hx
      have HM := Lib.hid hm
      have HKX := Lib.hid hkx
      have HPW := Lib.hid hpw
      have HKK := Lib.hid hkk
      have HBW := Lib.hid hbw
      have HA7 := Lib.hid a7
      clear hx a7 hkx hpw hkk hm hbw hR5' s5 b7 z2 zg
      go_wp2
      go_loopw [11] (fun j wq => ∃ q : Nat, q ≤ m ∧ j = .int .i64 q ∧ Hid (wq.rowIs kb 3 (n + 1) (cntV ns k q)) ∧ Below W5.heap.size W5 wq) (fun j _ => m - (intOf j).toNat)
      case atStart => exact ⟨0, Nat.zero_le _, rfl, HRow, HBW.out⟩
      case round =>
        obtain ⟨q, hq, rfl, HRq, hbq⟩ := hrel
        have s5 := (hbq.cell (p := ⟨w2.heap.size, 0, none⟩) l2).trans r5
        have b7 := (hbq.cell (p := ⟨g, k * 8 + 7, none⟩) lg).trans HA7.out
        have z2 := Nat.lt_of_lt_of_le l2 hbq.size
        have zg := Nat.lt_of_lt_of_le lg hbq.size
        by_cases hltq : q < m
        · rcases HKX.out with ⟨h1, _⟩ | ⟨gk, capk, h1, hcapk, hglk, _, hck⟩
          · have := HM.out; rw [h1] at this; simp at this; omega
          injection h1 with h1 _ h2
          subst h1 h2
          obtain ⟨y, hy⟩ : ∃ y, x.kids[q]? = some y := ⟨_, List.getElem?_eq_getElem (by rw [← HM.out]; exact hltq)⟩
          have hyk : y < k := HKK.out y (List.mem_of_getElem? hy)
          have cy := (hbq.cell (p := ⟨gk, q, none⟩) hglk).trans (hck q y hy)
          have zk := Nat.lt_of_lt_of_le hglk hbq.size
          have ry := HRq.out.cell (i := y) (by omega)
          have fy := HRq.out.frozen y
          have hcnt : cntTo ns k q y ≤ 1 := by
            have h3 := cnt_le ns k q y
            rw [cnt_forest HF.out HNS.out (by omega)] at h3
            split at h3 <;> omega
          obtain ⟨ct, hct⟩ : ∃ ct, ct = cntTo ns k q y := ⟨_, rfl⟩
          unfold cntV at ry
          rw [← hct] at ry hcnt
          have zb := HRq.out.lt
          have j0 : (0 : Int) ≤ q := by omega
          have j1 : (q : Int) < m := by omega
          have j2 : (0 : Int) ≤ y := by omega
          have j3 : (y : Int) < k := by omega
          have j4 : (y : Int) < (n : Int) + 1 := by omega
          have j5 : (ct : Int) ≤ 1 := by omega
          have j6 : (0 : Int) ≤ ct := by omega
          have e1 : decide ((y : Int) < 0) = false := by rw [decide_eq_false_iff_not]; omega
          have e2 : decide ((k : Int) ≤ (y : Int)) = false := by rw [decide_eq_false_iff_not]; omega
          have HCT := Lib.hid hct
          have HY := Lib.hid hy
          have HBQ := Lib.hid hbq
          have hrow2 : ∀ v : Value, v = .int .i64 ((ct : Int) + 1) → (wr.setCell ⟨kb, y, none⟩ v).rowIs kb 3 (n + 1) (cntV ns k (q + 1)) := by
            intro v hv
            refine (HRq.out.set y v).congr (fun i _ => ?_)
            unfold cntV
            rw [cnt_snoc HX.out HY.out i]
            by_cases hi : i = y
            · subst hi; rw [if_pos rfl, if_pos rfl, hv, HCT.out]; simp
            · rw [if_neg hi, if_neg hi]; simp
          have HR2' := Lib.hid hrow2
          rcases Nat.eq_zero_or_pos q with hq0 | hq0
          · subst hq0
            clear hy hct hbq hck hrow2
            go_wp2
            exact ⟨⟨1, by omega, rfl, Lib.hid (HR2'.out _ rfl), HBQ.out.setCell (by show W5.heap.size ≤ kb; rw [HK5.out]; exact Nat.le_refl _) _⟩, by simp [intOf]; omega⟩
          · obtain ⟨q', rfl⟩ : ∃ q', q = q' + 1 := ⟨q - 1, by omega⟩
            obtain ⟨z, hz⟩ : ∃ z, x.kids[q']? = some z := ⟨_, List.getElem?_eq_getElem (by rw [← HM.out]; omega)⟩
            have hzy : z < y := by
              obtain ⟨h3, h4⟩ := List.getElem?_eq_some_iff.1 hz
              obtain ⟨h5, h6⟩ := List.getElem?_eq_some_iff.1 hy
              have := List.pairwise_iff_getElem.1 HPW.out q' (q' + 1) h3 h5 (by omega)
              omega
            have cz := (hbq.cell (p := ⟨gk, q', none⟩) hglk).trans (hck q' z hz)
            have e3 : decide ((y : Int) ≤ (z : Int)) = false := by rw [decide_eq_false_iff_not]; omega
            have j7 : (z : Int) < y := by omega
            clear hy hz hct hbq hck hrow2
            go_wp2
            exact ⟨⟨q' + 1 + 1, by omega, by go_num, Lib.hid (HR2'.out _ rfl), HBQ.out.setCell (by show W5.heap.size ≤ kb; rw [HK5.out]; exact Nat.le_refl _) _⟩, by simp [intOf]; omega⟩
        · obtain rfl : q = m := by omega
          have HBQ := Lib.hid hbq
          clear hbq
          go_wp2
          exact ⟨⟨k + 1, by omega, by go_num, Lib.hid (HRq.out.congr (fun i _ => by unfold cntV cntTo; rw [show q = x.kids.length from HM.out, kidsTo_full HX.out])), HBQ.out⟩, by simp [intOf]; omega⟩
    · obtain rfl : k = n + 1 := by omega
      have hrow : wr.rowIs kb 3 (n + 1) (fun x => .int .i64 (if x = n then 0 else 1)) := HRow.out.congr (fun i hi => by
        unfold cntV cntTo
        rw [show n + 1 = ns.length from HNS.out.symm, kidsTo_all, cnt_forest HF.out HNS.out (by omega)]
        split <;> simp)
      have zb := hrow.lt
      have HRow2 := Lib.hid hrow
      have HBW := Lib.hid (HW5.out.trans (hbw.mono HW5.out.size))
      have HOW := Lib.hid (OpsAt.below HO5.out hbw)
      clear hbw hrow HRow s5 z2 zg
      go_wp2
      go_loopw [13] (fun i wq => ∃ k : Nat, k ≤ n ∧ i = .int .i64 k ∧ wq = wr) (fun i _ => n - (intOf i).toNat)
      case atStart => exact ⟨0, Nat.zero_le _, rfl, rfl⟩
      case round =>
        obtain ⟨k, hk, rfl, rfl⟩ := hrel
        by_cases hlt : k < n
        · have rk := HRow2.out.cell (i := k) (by omega)
          rw [if_neg (by omega)] at rk
          have j0 : (0 : Int) ≤ k := by omega
          have j1 : (k : Int) < n := by omega
          have j2 : (k : Int) < (n : Int) + 1 := by omega
          go_wp2
          exact ⟨⟨k + 1, by omega, by go_num, trivial⟩, by simp [intOf]; omega⟩
        · obtain rfl : k = n := by omega
          have rk := HRow2.out.cell (i := k) (by omega)
          rw [if_pos rfl] at rk
          go_wp2_with fail
          refine (live_any _ HOW.out).mono ?_
          rintro e w8 ⟨rfl, hb8⟩
          go_wp2
          go_ret
          exact ⟨rfl, HBW.out.trans (hb8.mono HBW.out.size)⟩

theorem trees_any (s : ByteArray) (w : World) (ho : Parse.OpsAt w) : Calls Tryd.prog 3 #[.string s] w fun e w' => e = .returned (.bool true) ∧ Below w.heap.size w w' := by
  by_cases h : (lexAll s.data.toList).2.2 = 0
  · obtain ⟨us, hs⟩ := src_of h
    by_cases h2 : (Parse.parseAll ((lexAll s.data.toList).1.map ptOf)).2.2 = 0
    · exact tre_ok s w ho _ us hs h2
    · exact tre_not s w ho _ us hs h2
  · exact tre_bad s w ho h
end Go.Proofs.YteggenldmkbhiaaDoor
