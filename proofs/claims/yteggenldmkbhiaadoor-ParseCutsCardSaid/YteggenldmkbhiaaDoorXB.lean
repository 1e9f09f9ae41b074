/- The law ParseCuts. -/
import Derived.Test.YteggenldmkbhiaaDoorXA
namespace Go.Proofs.YteggenldmkbhiaaDoor
open Go.RowKit

set_option maxHeartbeats 2000000 in
set_option maxRecDepth 100000 in
theorem copied_any (us : List PTok) (g n cap : Nat) (w : World) (hn : n = us.length) (hc : ∀ j u, (rowOf us)[j]? = some u → w.cell? ((⟨g, 0, none⟩ : Addr).add j) = some u) (hm : n ≤ 4000) :
    Calls Tryd.prog 13 #[.slice (some ⟨g, 0, none⟩) n cap] w fun e w' => ∃ v, e = .returned v ∧ TokRow w' w.heap.size v us ∧ Below w.heap.size w w' := by
  obtain ⟨i0, hi, hz0, hz1, hz2⟩ := info_parts Tryd.info41
  have HC := Lib.hid hc
  have HN := Lib.hid hn
  clear hc hn
  go_enter Tryd.func13, Tryd.ntmps13
  go_wp2_with (first | (at_builtin; refine wpList_append_own _ rfl (.tmp 4) (.tmp 5) 22 rfl w.heap.size 41 i0 (.agg #[.int .i64 0, .int .i64 0, .string ⟨#[]⟩, .int .u32 0, .bool false]) 5 40 Tryd.underlying22 hi hz0 hz1 hz2 rfl (by decide) (.slice none 0 0) 0 [] rfl ⟨rfl, .inl ⟨rfl, rfl⟩⟩ ⟨g, 0, none⟩ n cap (rowOf us) rfl (by rw [row_len, HN.out]) HC.out (row_one _) (by unfold maxLen; omega) (by omega) (Nat.le_refl _) ?_; intro v3 w3 hown3 hgrow3 hnil3))
  go_ret
  refine ⟨v3, rfl, ?_, (Below.refl w.heap.size w).grown hgrow3 (Nat.le_refl _) (fun k hk => by cases hk)⟩
  unfold TokRow
  rw [← HN.out]
  simpa using hown3

set_option maxHeartbeats 2000000 in
set_option maxRecDepth 100000 in
theorem cuts_bad (s : ByteArray) (k0 : Int) (w : World) (ho : Parse.OpsAt w) (h : (lexAll s.data.toList).2.2 ≠ 0) :
    Calls Tryd.prog 5 #[.string s, .int .i64 k0] w fun e w' => e = .returned (.bool true) ∧ Below w.heap.size w w' := by
  have hl := tokens_any s
  rw [show decide ((lexAll s.data.toList).2.2 = 0) = false by simp [h]] at hl
  have HL := Lib.hid hl
  have HO := Lib.hid ho
  clear hl ho h
  go_enter Tryd.func5, Tryd.ntmps5
  go_wp2_with fail
  refine (HL.out _).mono ?_
  rintro e w1 ⟨v, rfl, hT, hb⟩
  have HB := Lib.hid hb
  have HO1 := Lib.hid (OpsAt.below HO.out hb)
  clear hT hb
  go_wp2_with fail
  refine (live_any _ HO1.out).mono ?_
  rintro e w2 ⟨rfl, hb2⟩
  go_wp2
  go_ret
  exact ⟨rfl, HB.out.trans (hb2.mono HB.out.size)⟩

set_option maxHeartbeats 2000000 in
set_option maxRecDepth 100000 in
theorem cuts_not (s : ByteArray) (k0 : Int) (w : World) (ho : Parse.OpsAt w) (ts : List PTok) (us : List Tok) (hs : Src s.data.toList ts us) (h : (Parse.parseAll (ts.map ptOf)).2.2 ≠ 0) :
    Calls Tryd.prog 5 #[.string s, .int .i64 k0] w fun e w' => e = .returned (.bool true) ∧ Below w.heap.size w w' := by
  have hl := tokens_any s
  rw [hs.all] at hl
  simp only [decide_true] at hl
  have hpz := fun (w : World) (B : Nat) (v : Value) (hT : Toks w B v ts) (ho : Parse.OpsAt w) => parse_toks hT ho hs.endsOnce hs.small
  obtain ⟨R, hR⟩ : ∃ R, R = Parse.parseAll (ts.map ptOf) := ⟨_, rfl⟩
  rw [← hR] at hpz h
  have e0 : (R.2.2 == 0) = false := by rw [beq_eq_false_iff_ne]; exact h
  have e1 : (R.2.2 != 0) = true := by rw [bne_iff_ne]; exact h
  have HL := Lib.hid hl
  have HO := Lib.hid ho
  have HP := Lib.hid hpz
  clear hl ho h hpz hR hs
  go_enter Tryd.func5, Tryd.ntmps5
  go_wp2_with fail
  refine (HL.out _).mono ?_
  rintro e w1 ⟨v, rfl, hT, hb⟩
  obtain ⟨ga, ca, hv⟩ := tok_form hT
  subst hv
  have HB := Lib.hid hb
  have HT := Lib.hid (TokRow.toks hT)
  have HO1 := Lib.hid (OpsAt.below HO.out hb)
  clear hT hb
  go_wp2_with fail
  refine (HP.out _ _ _ HT.out HO1.out).mono ?_
  rintro e w2 ⟨nv, rfl, hN, hb2⟩
  obtain ⟨p, c, hv⟩ := (nodes_r hN).form
  subst hv
  have HO2 := Lib.hid (OpsAt.below HO1.out hb2)
  have HB2 := Lib.hid (HB.out.trans (hb2.mono HB.out.size))
  clear hN hb2
  have HO3 : Hid (∀ (o : Obj), Parse.OpsAt (w2.alloc o) ∧ Below w.heap.size w (w2.alloc o)) := Lib.hid fun o => ⟨OpsAt.below HO2.out ((Below.refl _ _).alloc (Nat.le_refl _) _), HB2.out.alloc HB2.out.size _⟩
  go_wp2_with fail
  refine (live_any _ (HO3.out _).1).mono ?_
  rintro e w3 ⟨rfl, hb3⟩
  go_wp2
  go_ret
  exact ⟨rfl, (HO3.out _).2.trans (hb3.mono (HO3.out _).2.size)⟩
theorem tok_form2 {w : World} {B : Nat} {v : Value} {n : Nat} {xs : List Value} (h : w.ownsRow B 41 5 v n xs) (hn : 0 < n) :
    ∃ g cap, v = .slice (some ⟨g, 0, none⟩) n cap ∧ n ≤ cap ∧ cap ≤ 9223372036854775807 := by
  rcases h.2 with ⟨_, h2⟩ | ⟨g, cap, cur, h1, _, _, h3, h4, _⟩
  · omega
  · exact ⟨g, cap, h1, h3, h4⟩
theorem row_take (ts : List PTok) (k : Nat) : ∀ (j : Nat) (u : Value), (rowOf (ts.take k))[j]? = some u → (rowOf ts)[j]? = some u := by
  intro j u h
  have e : rowOf ts = rowOf (ts.take k) ++ rowOf (ts.drop k) := by unfold rowOf; rw [← List.flatMap_append, List.take_append_drop]
  rw [e, List.getElem?_append_left (List.getElem?_eq_some_iff.1 h).1]; exact h

set_option maxHeartbeats 4000000 in
set_option maxRecDepth 100000 in
theorem cuts_ok (s : ByteArray) (k0 : Int) (hk1 : 0 ≤ k0) (hk2 : k0 ≤ 9223372036854775807) (w : World) (ho : Parse.OpsAt w) (ts : List PTok) (us : List Tok) (hs : Src s.data.toList ts us) (h : (Parse.parseAll (ts.map ptOf)).2.2 = 0) :
    Calls Tryd.prog 5 #[.string s, .int .i64 k0] w fun e w' => e = .returned (.bool true) ∧ Below w.heap.size w w' := by
  obtain ⟨ti, hi, hz0, hz1, hz2⟩ := info_parts Tryd.info41
  have hl := tokens_any s
  rw [hs.all] at hl
  simp only [decide_true] at hl
  have hpz := fun (w : World) (B : Nat) (v : Value) (hT : Toks w B v ts) (ho : Parse.OpsAt w) => parse_toks hT ho hs.endsOnce hs.small
  have hN1 : 1 ≤ ts.length := by have := hs.len; omega
  have hN2 : ts.length ≤ 4000 := by have := hs.len; have := hs.many; omega
  obtain ⟨N, hN⟩ : ∃ N, N = ts.length := ⟨_, rfl⟩
  have hN0 : (0 : Int) < N := by omega
  have r0 : 0 ≤ k0 % (N : Int) := Int.emod_nonneg _ (by omega)
  have r1 : k0 % (N : Int) < N := Int.emod_lt_of_pos _ hN0
  obtain ⟨k, hk⟩ : ∃ k : Nat, k0 % (N : Int) = (k : Int) := ⟨(k0 % (N : Int)).toNat, by omega⟩
  have hkt : (k0 % (N : Int)).toNat = k := by omega
  have hkN : k < N := by omega
  obtain ⟨t, ht⟩ : ∃ t, ts[k]? = some t := ⟨_, List.getElem?_eq_getElem (by omega)⟩
  have hcut := src_cuts hs h (k := k) (by omega) (p := t.2) (by rw [ht]; rfl) (cut := (ts.take k ++ [(endTok, t.2)]).map ptOf) (by simp [ptOf, endTok])
  have hsm : ∀ x ∈ ts.take k ++ [(endTok, t.2)], x.1.text.length ≤ 20000 ∧ x.1.num ≤ 4294967295 := by
    intro x hx
    rcases List.mem_append.1 hx with h1 | h1
    · exact hs.small x (List.mem_of_mem_take h1)
    · simp only [List.mem_singleton] at h1; subst h1; simp [endTok]
  have hpc := fun (w : World) (B : Nat) (v : Value) (hT : Toks w B v (ts.take k ++ [(endTok, t.2)])) (ho : Parse.OpsAt w) => parse_toks hT ho hcut.1 hsm
  obtain ⟨R, hR⟩ : ∃ R, R = Parse.parseAll ((ts.take k ++ [(endTok, t.2)]).map ptOf) := ⟨_, rfl⟩
  obtain ⟨S, hS⟩ : ∃ S, S = Parse.parseAll (ts.map ptOf) := ⟨_, rfl⟩
  rw [← hR] at hpc hcut
  rw [← hS] at hpz h
  have e1 : (S.2.2 != 0) = false := by rw [h]; rfl
  obtain ⟨a1, a2, a3, a4⟩ : ∃ a1 a2 a3 : Bool, (R.2.2 == 0) = a1 ∧ (R.2.2 == 20) = a2 ∧ (R.2.1 == (t.2 : Int)) = a3 ∧ (a1 || (a2 && a3)) = true := by
    refine ⟨_, _, _, rfl, rfl, rfl, ?_⟩
    rcases hcut.2 with h1 | ⟨h1, h2⟩
    · simp [h1]
    · simp [h1, h2]
  have HL := Lib.hid hl
  have HO := Lib.hid ho
  have HP := Lib.hid hpz
  have HQ := Lib.hid hpc
  have HT := Lib.hid ht
  have HN := Lib.hid hN
  have HK := Lib.hid hk
  have HKT := Lib.hid hkt
  have hzn : ((N : Int) == 0) = false := by rw [beq_eq_false_iff_ne]; omega
  clear hl ho h hpz hR hS hs hcut hsm hpc ht hk hkt
  rw [← hN] at hN1 hN2
  clear hN
  go_enter Tryd.func5, Tryd.ntmps5
  go_wp2_with fail
  refine (HL.out _).mono ?_
  rintro e w1 ⟨v, rfl, hT, hb⟩
  have hT' : w1.ownsRow w.heap.size 41 5 v ts.length (rowOf ts) := hT
  rw [← HN.out] at hT'
  obtain ⟨ga, ca, hv, hca, hcam⟩ := tok_form2 hT' hN1
  subst hv
  have HB := Lib.hid hb
  have HT1 := Lib.hid (TokRow.toks hT)
  have HTR := Lib.hid hT'
  have HO1 := Lib.hid (OpsAt.below HO.out hb)
  clear hT hb hT'
  go_wp2_with fail
  refine (HP.out _ _ _ HT1.out HO1.out).mono ?_
  rintro e w2 ⟨nv, rfl, hN2', hb2⟩
  obtain ⟨p, c, hv⟩ := (nodes_r hN2').form
  subst hv
  have HO2 := Lib.hid (OpsAt.below HO1.out hb2)
  have HB2 := Lib.hid hb2
  clear hN2' hb2
  have HA3 : Hid (∀ o : Obj, Calls Tryd.prog 13 #[.slice (some ⟨ga, 0, none⟩) k ca] (w2.alloc o) fun e w' => ∃ v, e = .returned v ∧ TokRow w' (w2.alloc o).heap.size v (ts.take k) ∧ Below (w2.alloc o).heap.size (w2.alloc o) w') := Lib.hid fun o => by
    refine copied_any (ts.take k) ga k ca (w2.alloc o) (by simp; rw [← HN.out]; omega) (fun j u hj => ?_) (by omega)
    have hw : Below w1.heap.size w1 (w2.alloc o) := HB2.out.alloc HB2.out.size _
    exact World.ownsRow.cells (own_below HTR.out hw) (g := ga) rfl j u (row_take ts k j u hj)
  have hcaI : (N : Int) ≤ ca := by omega
  go_wp2_with fail
  rw [HKT.out]
  refine (HA3.out _).mono ?_
  rintro e w3 ⟨v3, rfl, hT3, hb3⟩
  rw [HK.out]
  obtain ⟨o2, ho2⟩ : ∃ o2 : Obj, o2 = (.cells #[.slice p S.1.length c] 28) := ⟨_, rfl⟩
  rw [← ho2] at hT3 hb3
  have hw2 : Below w1.heap.size w1 (w2.alloc o2) := HB2.out.alloc HB2.out.size _
  have hw3 : Below w1.heap.size w1 w3 := hw2.trans (hb3.mono hw2.size)
  have hTk : Toks w3 w.heap.size (.slice (some ⟨ga, 0, none⟩) N ca) ts := HT1.out.below hw3
  obtain ⟨⟨_, c1, _⟩, hgl⟩ := hTk.at_ HT.out
  have i0 : (0 : Int) ≤ k := by omega
  have i1 : (k : Int) < N := by omega
  have hT3' : w3.ownsRow (w2.alloc o2).heap.size 41 5 v3 k (rowOf (ts.take k)) := by
    have h2 : w3.ownsRow (w2.alloc o2).heap.size 41 5 v3 (ts.take k).length (rowOf (ts.take k)) := hT3
    rw [List.length_take, ← HN.out, Nat.min_eq_left (by omega)] at h2
    exact h2
  obtain ⟨ao3, cv3, hv3⟩ := tok_form hT3'
  subst hv3
  have HT3 := Lib.hid hT3'
  have hB3 := hb3.size
  have HW3 := Lib.hid hw3
  have HO3 := Lib.hid (OpsAt.below HO1.out hw3)
  clear hT3 hb3 hTk hT3' hw3 hw2 HA3 ho2
  go_wp2_with (first | (at_builtin; refine wpList_append_own _ rfl (.tmp 44) (.tmp 51) 22 rfl (w2.alloc o2).heap.size 41 ti (.agg #[.int .i64 0, .int .i64 0, .string ⟨#[]⟩, .int .u32 0, .bool false]) 5 40 Tryd.underlying22 hi hz0 hz1 hz2 rfl (by decide) _ _ _ rfl (HT3.out.alloc _) ⟨w3.heap.size, 0, none⟩ 1 1 (tokCells (endTok, t.2)) rfl rfl (cells_new5 _ _ _ _ _ _ _) (tok_one _) (by unfold maxLen; omega) (by omega) (Nat.le_trans hB3 (by rw [World.size_alloc]; omega)) ?_; intro v4 w4 hown4 hgrow4 hnil4) | fail)
  have hw12 : w1.heap.size ≤ (w2.alloc o2).heap.size := (HB2.out.alloc HB2.out.size o2).size
  have hw4 : Below w1.heap.size w1 w4 := (HW3.out.alloc HW3.out.size _).grown hgrow4 (Nat.le_trans HW3.out.size (by rw [World.size_alloc]; omega)) (fun j hj => Nat.le_trans hw12 (HT3.out.lt j hj).1)
  have hT4 : TokRow w4 (w2.alloc o2).heap.size v4 (ts.take k ++ [(endTok, t.2)]) := by
    refine TokRow.snoc (t := (endTok, t.2)) ?_
    rw [List.length_take, ← HN.out, Nat.min_eq_left (by omega)]
    exact hown4
  have HP4 := Lib.hid (HQ.out w4 _ v4 hT4.toks (OpsAt.below HO1.out hw4))
  have HW4 := Lib.hid hw4
  have c1' := (hw4.cell (p := ⟨ga, k * 5 + 1, none⟩) (by
    rcases HT1.out with ⟨h1, _⟩ | ⟨g', cap', h1, _, _, hgl', _⟩
    · have := HN.out; rw [h1] at this; simp at this; omega
    · injection h1 with h1 _ _
      injection h1 with h1
      injection h1 with h1
      subst h1; exact hgl')).trans (HT1.out.at_ HT.out).1.2.1
  have hg4 : ga < w4.heap.size := by have := hgrow4.size; rw [World.size_alloc] at this; omega
  clear hown4 hgrow4 hnil4 hw12 hw4 hT4 c1 hgl hB3
  refine HP4.out.mono ?_
  rintro e w5 ⟨nv, rfl, hN5, hb5⟩
  obtain ⟨p5, c5, hv⟩ := (nodes_r hN5).form
  subst hv
  have c15 := (hb5.cell (p := ⟨ga, k * 5 + 1, none⟩) hg4).trans c1'
  have hg5 := Nat.lt_of_lt_of_le hg4 hb5.size
  have hall := HB.out.trans ((HW4.out.trans (hb5.mono HW4.out.size)).mono HB.out.size)
  have HW5 := Lib.hid hall
  have HO5 : Hid (∀ (o : Obj), Parse.OpsAt (w5.alloc o) ∧ Below w.heap.size w (w5.alloc o)) := Lib.hid fun o => ⟨OpsAt.below HO.out (hall.alloc hall.size _), hall.alloc hall.size _⟩
  clear hN5 hb5 c1' hall hg4
  obtain ⟨b1, b2, b3, b4⟩ := a4
  cases a1 <;> cases a2 <;> cases a3 <;> (try (simp at b4; done))
  all_goals
    clear b4
    go_wp2_with (first | (go_at_call 9; refine (live_any _ (HO5.out _).1).mono ?_; rintro e w6 ⟨rfl, hb6⟩) | fail)
    go_ret
    exact ⟨rfl, (HO5.out _).2.trans (hb6.mono (HO5.out _).2.size)⟩
set_option maxHeartbeats 4000000 in
set_option maxRecDepth 100000 in
theorem cuts_neg (s : ByteArray) (k0 : Int) (hk1 : k0 < 0) (hk2 : -9223372036854775808 ≤ k0) (w : World) (ho : Parse.OpsAt w) (ts : List PTok) (us : List Tok) (hs : Src s.data.toList ts us) (h : (Parse.parseAll (ts.map ptOf)).2.2 = 0) :
    Calls Tryd.prog 5 #[.string s, .int .i64 k0] w fun e w' => e = .returned (.bool true) ∧ Below w.heap.size w w' := by
  obtain ⟨ti, hi, hz0, hz1, hz2⟩ := info_parts Tryd.info41
  have hl := tokens_any s
  rw [hs.all] at hl
  simp only [decide_true] at hl
  have hpz := fun (w : World) (B : Nat) (v : Value) (hT : Toks w B v ts) (ho : Parse.OpsAt w) => parse_toks hT ho hs.endsOnce hs.small
  have hN1 : 1 ≤ ts.length := by have := hs.len; omega
  have hN2 : ts.length ≤ 4000 := by have := hs.len; have := hs.many; omega
  obtain ⟨N, hN⟩ : ∃ N, N = ts.length := ⟨_, rfl⟩
  have hN0 : (0 : Int) < N := by omega
  have hem : -(k0 + 1).tmod (N : Int) = (-(k0 + 1)) % (N : Int) := by rw [← Int.neg_tmod, Int.tmod_eq_emod_of_nonneg (by omega)]
  have r0 : 0 ≤ -(k0 + 1).tmod (N : Int) := by rw [hem]; exact Int.emod_nonneg _ (by omega)
  have r1 : -(k0 + 1).tmod (N : Int) < N := by rw [hem]; exact Int.emod_lt_of_pos _ hN0
  have r2 : (k0 + 1).tmod (N : Int) ≤ 0 := by omega
  clear hem
  obtain ⟨k, hk⟩ : ∃ k : Nat, -(k0 + 1).tmod (N : Int) = (k : Int) := ⟨(-(k0 + 1).tmod (N : Int)).toNat, by omega⟩
  have hkt : (-(k0 + 1).tmod (N : Int)).toNat = k := by omega
  have hkN : k < N := by omega
  obtain ⟨t, ht⟩ : ∃ t, ts[k]? = some t := ⟨_, List.getElem?_eq_getElem (by omega)⟩
  have hcut := src_cuts hs h (k := k) (by omega) (p := t.2) (by rw [ht]; rfl) (cut := (ts.take k ++ [(endTok, t.2)]).map ptOf) (by simp [ptOf, endTok])
  have hsm : ∀ x ∈ ts.take k ++ [(endTok, t.2)], x.1.text.length ≤ 20000 ∧ x.1.num ≤ 4294967295 := by
    intro x hx
    rcases List.mem_append.1 hx with h1 | h1
    · exact hs.small x (List.mem_of_mem_take h1)
    · simp only [List.mem_singleton] at h1; subst h1; simp [endTok]
  have hpc := fun (w : World) (B : Nat) (v : Value) (hT : Toks w B v (ts.take k ++ [(endTok, t.2)])) (ho : Parse.OpsAt w) => parse_toks hT ho hcut.1 hsm
  obtain ⟨R, hR⟩ : ∃ R, R = Parse.parseAll ((ts.take k ++ [(endTok, t.2)]).map ptOf) := ⟨_, rfl⟩
  obtain ⟨S, hS⟩ : ∃ S, S = Parse.parseAll (ts.map ptOf) := ⟨_, rfl⟩
  rw [← hR] at hpc hcut
  rw [← hS] at hpz h
  have e1 : (S.2.2 != 0) = false := by rw [h]; rfl
  obtain ⟨a1, a2, a3, a4⟩ : ∃ a1 a2 a3 : Bool, (R.2.2 == 0) = a1 ∧ (R.2.2 == 20) = a2 ∧ (R.2.1 == (t.2 : Int)) = a3 ∧ (a1 || (a2 && a3)) = true := by
    refine ⟨_, _, _, rfl, rfl, rfl, ?_⟩
    rcases hcut.2 with h1 | ⟨h1, h2⟩
    · simp [h1]
    · simp [h1, h2]
  have HL := Lib.hid hl
  have HO := Lib.hid ho
  have HP := Lib.hid hpz
  have HQ := Lib.hid hpc
  have HT := Lib.hid ht
  have HN := Lib.hid hN
  have HK := Lib.hid hk
  have HKT := Lib.hid hkt
  have hzn : ((N : Int) == 0) = false := by rw [beq_eq_false_iff_ne]; omega
  clear hl ho h hpz hR hS hs hcut hsm hpc ht hk hkt
  rw [← hN] at hN1 hN2
  clear hN
  go_enter Tryd.func5, Tryd.ntmps5
  go_wp2_with fail
  refine (HL.out _).mono ?_
  rintro e w1 ⟨v, rfl, hT, hb⟩
  have hT' : w1.ownsRow w.heap.size 41 5 v ts.length (rowOf ts) := hT
  rw [← HN.out] at hT'
  obtain ⟨ga, ca, hv, hca, hcam⟩ := tok_form2 hT' hN1
  subst hv
  have HB := Lib.hid hb
  have HT1 := Lib.hid (TokRow.toks hT)
  have HTR := Lib.hid hT'
  have HO1 := Lib.hid (OpsAt.below HO.out hb)
  clear hT hb hT'
  go_wp2_with fail
  refine (HP.out _ _ _ HT1.out HO1.out).mono ?_
  rintro e w2 ⟨nv, rfl, hN2', hb2⟩
  obtain ⟨p, c, hv⟩ := (nodes_r hN2').form
  subst hv
  have HO2 := Lib.hid (OpsAt.below HO1.out hb2)
  have HB2 := Lib.hid hb2
  clear hN2' hb2
  have HA3 : Hid (∀ o : Obj, Calls Tryd.prog 13 #[.slice (some ⟨ga, 0, none⟩) k ca] (w2.alloc o) fun e w' => ∃ v, e = .returned v ∧ TokRow w' (w2.alloc o).heap.size v (ts.take k) ∧ Below (w2.alloc o).heap.size (w2.alloc o) w') := Lib.hid fun o => by
    refine copied_any (ts.take k) ga k ca (w2.alloc o) (by simp; rw [← HN.out]; omega) (fun j u hj => ?_) (by omega)
    have hw : Below w1.heap.size w1 (w2.alloc o) := HB2.out.alloc HB2.out.size _
    exact World.ownsRow.cells (own_below HTR.out hw) (g := ga) rfl j u (row_take ts k j u hj)
  have hcaI : (N : Int) ≤ ca := by omega
  go_wp2_with fail
  rw [HKT.out]
  refine (HA3.out _).mono ?_
  rintro e w3 ⟨v3, rfl, hT3, hb3⟩
  rw [HK.out]
  obtain ⟨o2, ho2⟩ : ∃ o2 : Obj, o2 = (.cells #[.slice p S.1.length c] 28) := ⟨_, rfl⟩
  rw [← ho2] at hT3 hb3
  have hw2 : Below w1.heap.size w1 (w2.alloc o2) := HB2.out.alloc HB2.out.size _
  have hw3 : Below w1.heap.size w1 w3 := hw2.trans (hb3.mono hw2.size)
  have hTk : Toks w3 w.heap.size (.slice (some ⟨ga, 0, none⟩) N ca) ts := HT1.out.below hw3
  obtain ⟨⟨_, c1, _⟩, hgl⟩ := hTk.at_ HT.out
  have i0 : (0 : Int) ≤ k := by omega
  have i1 : (k : Int) < N := by omega
  have hT3' : w3.ownsRow (w2.alloc o2).heap.size 41 5 v3 k (rowOf (ts.take k)) := by
    have h2 : w3.ownsRow (w2.alloc o2).heap.size 41 5 v3 (ts.take k).length (rowOf (ts.take k)) := hT3
    rw [List.length_take, ← HN.out, Nat.min_eq_left (by omega)] at h2
    exact h2
  obtain ⟨ao3, cv3, hv3⟩ := tok_form hT3'
  subst hv3
  have HT3 := Lib.hid hT3'
  have hB3 := hb3.size
  have HW3 := Lib.hid hw3
  have HO3 := Lib.hid (OpsAt.below HO1.out hw3)
  clear hT3 hb3 hTk hT3' hw3 hw2 HA3 ho2
  go_wp2_with (first | (at_builtin; refine wpList_append_own _ rfl (.tmp 44) (.tmp 51) 22 rfl (w2.alloc o2).heap.size 41 ti (.agg #[.int .i64 0, .int .i64 0, .string ⟨#[]⟩, .int .u32 0, .bool false]) 5 40 Tryd.underlying22 hi hz0 hz1 hz2 rfl (by decide) _ _ _ rfl (HT3.out.alloc _) ⟨w3.heap.size, 0, none⟩ 1 1 (tokCells (endTok, t.2)) rfl rfl (cells_new5 _ _ _ _ _ _ _) (tok_one _) (by unfold maxLen; omega) (by omega) (Nat.le_trans hB3 (by rw [World.size_alloc]; omega)) ?_; intro v4 w4 hown4 hgrow4 hnil4) | fail)
  have hw12 : w1.heap.size ≤ (w2.alloc o2).heap.size := (HB2.out.alloc HB2.out.size o2).size
  have hw4 : Below w1.heap.size w1 w4 := (HW3.out.alloc HW3.out.size _).grown hgrow4 (Nat.le_trans HW3.out.size (by rw [World.size_alloc]; omega)) (fun j hj => Nat.le_trans hw12 (HT3.out.lt j hj).1)
  have hT4 : TokRow w4 (w2.alloc o2).heap.size v4 (ts.take k ++ [(endTok, t.2)]) := by
    refine TokRow.snoc (t := (endTok, t.2)) ?_
    rw [List.length_take, ← HN.out, Nat.min_eq_left (by omega)]
    exact hown4
  have HP4 := Lib.hid (HQ.out w4 _ v4 hT4.toks (OpsAt.below HO1.out hw4))
  have HW4 := Lib.hid hw4
  have c1' := (hw4.cell (p := ⟨ga, k * 5 + 1, none⟩) (by
    rcases HT1.out with ⟨h1, _⟩ | ⟨g', cap', h1, _, _, hgl', _⟩
    · have := HN.out; rw [h1] at this; simp at this; omega
    · injection h1 with h1 _ _
      injection h1 with h1
      injection h1 with h1
      subst h1; exact hgl')).trans (HT1.out.at_ HT.out).1.2.1
  have hg4 : ga < w4.heap.size := by have := hgrow4.size; rw [World.size_alloc] at this; omega
  clear hown4 hgrow4 hnil4 hw12 hw4 hT4 c1 hgl hB3
  refine HP4.out.mono ?_
  rintro e w5 ⟨nv, rfl, hN5, hb5⟩
  obtain ⟨p5, c5, hv⟩ := (nodes_r hN5).form
  subst hv
  have c15 := (hb5.cell (p := ⟨ga, k * 5 + 1, none⟩) hg4).trans c1'
  have hg5 := Nat.lt_of_lt_of_le hg4 hb5.size
  have hall := HB.out.trans ((HW4.out.trans (hb5.mono HW4.out.size)).mono HB.out.size)
  have HW5 := Lib.hid hall
  have HO5 : Hid (∀ (o : Obj), Parse.OpsAt (w5.alloc o) ∧ Below w.heap.size w (w5.alloc o)) := Lib.hid fun o => ⟨OpsAt.below HO.out (hall.alloc hall.size _), hall.alloc hall.size _⟩
  clear hN5 hb5 c1' hall hg4
  obtain ⟨b1, b2, b3, b4⟩ := a4
  cases a1 <;> cases a2 <;> cases a3 <;> (try (simp at b4; done))
  all_goals
    clear b4
    go_wp2_with (first | (go_at_call 9; refine (live_any _ (HO5.out _).1).mono ?_; rintro e w6 ⟨rfl, hb6⟩) | fail)
    go_ret
    exact ⟨rfl, (HO5.out _).2.trans (hb6.mono (HO5.out _).2.size)⟩

theorem cuts_any (s : ByteArray) (k0 : Int) (hk : -9223372036854775808 ≤ k0 ∧ k0 ≤ 9223372036854775807) (w : World) (ho : Parse.OpsAt w) :
    Calls Tryd.prog 5 #[.string s, .int .i64 k0] w fun e w' => e = .returned (.bool true) ∧ Below w.heap.size w w' := by
  by_cases h : (lexAll s.data.toList).2.2 = 0
  · obtain ⟨us, hs⟩ := src_of h
    by_cases h2 : (Parse.parseAll ((lexAll s.data.toList).1.map ptOf)).2.2 = 0
    · rcases Int.lt_or_le k0 0 with h3 | h3
      · exact cuts_neg s k0 h3 hk.1 w ho _ us hs h2
      · exact cuts_ok s k0 h3 hk.2 w ho _ us hs h2
    · exact cuts_not s k0 w ho _ us hs h2
  · exact cuts_bad s k0 w ho h
end Go.Proofs.YteggenldmkbhiaaDoor
