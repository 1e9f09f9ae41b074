/- The law ParseJoined: the walk. -/
import Derived.Test.YteggenldmkbhiaaDoorXD
namespace Go.Proofs.YteggenldmkbhiaaDoor
open Go.RowKit

set_option maxHeartbeats 4000000 in
set_option maxRecDepth 100000 in
theorem jnd_skip (s t a : ByteArray) (x y z : Bool) (t0 t1 t2 : List PTok) (w : World) (ho : Parse.OpsAt w) (h0 : LexB s x t0) (h1 : LexB t y t1) (h2 : LexB a z t2)
    (ha : a = s ++ ⟨#[10]⟩ ++ t) (hf : (x && y && z) = false) (hsz : s.size ≤ 140737488351232) (htz : t.size ≤ 140737488351232) :
    Calls Tryd.prog 6 #[.string s, .string t] w fun e w' => e = .returned (.bool true) ∧ Below w.heap.size w w' := by
  subst ha
  have hszI : (s.size : Int) ≤ 140737488351232 := by omega
  have htzI : (t.size : Int) ≤ 140737488351232 := by omega
  have H0 := Lib.hid h0
  have H1 := Lib.hid h1
  have H2 := Lib.hid h2
  have HO := Lib.hid ho
  clear h0 h1 h2 ho
  go_enter Tryd.func6, Tryd.ntmps6
  go_wp2_with fail
  refine (H0.out _).mono ?_
  rintro e w1 ⟨v1, rfl, _, hb1⟩
  go_wp2_with fail
  refine (H1.out _).mono ?_
  rintro e w2 ⟨v2, rfl, _, hb2⟩
  go_wp2_with fail
  refine (H2.out _).mono ?_
  rintro e w3 ⟨v3, rfl, _, hb3⟩
  have HBW := Lib.hid ((hb1.trans (hb2.mono hb1.size)).trans (hb3.mono (Nat.le_trans hb1.size hb2.size)))
  have HOW := Lib.hid (OpsAt.below HO.out HBW.out)
  clear hb1 hb2 hb3
  cases x <;> cases y <;> cases z <;> (try (simp at hf; done))
  all_goals
    clear hf
    go_wp2_with (first | (go_at_call 9; refine (live_any _ HOW.out).mono ?_; rintro e w4 ⟨rfl, hb4⟩))
    go_ret
    exact ⟨rfl, HBW.out.trans (hb4.mono HBW.out.size)⟩

/-- What the plain side says of the three trees. -/
structure JndOk (A B C X Y Z : List Parse.PN) : Prop where
  ea : ∃ b, A = X ++ [b]
  eb : ∃ b, B = Y ++ [b]
  ec : ∃ b, C = Z ++ [b]
  len : Z.length = X.length + Y.length
  rel : ∀ (i : Nat) (c : Parse.PN), Z[i]? = some c → ∃ w, (X ++ Y)[i]? = some w ∧ c.kind = w.kind ∧ c.op = w.op ∧ c.name = w.name ∧ c.num = w.num

theorem nodes_few {l : Bs} {ts : List PTok} {us : List Tok} (h : Src l ts us) {ns : List Parse.PN} (hp : Parse.parseAll (ts.map ptOf) = (ns, 0, 0)) : ns.length ≤ 4000 := by
  obtain ⟨X, b, h1, _, h3, _⟩ := Parse.trees (A := ts.map ptOf) (by rw [hp])
  rw [hp] at h1
  injection h1 with h1 _
  rw [h1]
  rw [List.length_map] at h3
  have := h.len
  have := h.many
  omega
set_option maxHeartbeats 8000000 in
set_option maxRecDepth 100000 in
theorem jnd_all (s t a : ByteArray) (t0 t1 t2 : List PTok) (u0 u1 u2 : List Tok) (w : World) (ho : Parse.OpsAt w) (h0 : LexB s true t0) (h1 : LexB t true t1) (h2 : LexB a true t2)
    (ha : a = s ++ ⟨#[10]⟩ ++ t) (s0 : Src s.data.toList t0 u0) (s1 : Src t.data.toList t1 u1) (s2 : Src a.data.toList t2 u2) (hsz : s.size ≤ 140737488351232) (htz : t.size ≤ 140737488351232) :
    Calls Tryd.prog 6 #[.string s, .string t] w fun e w' => e = .returned (.bool true) ∧ Below w.heap.size w w' := by
  have hda : a.data.toList = s.data.toList ++ 10 :: t.data.toList := by rw [ha, append_data, append_data]; simp
  rw [hda] at s2
  have hp0 := fun (w : World) (B : Nat) (v : Value) (hT : Toks w B v t0) (ho : Parse.OpsAt w) => parse_toks hT ho s0.endsOnce s0.small
  have hp1 := fun (w : World) (B : Nat) (v : Value) (hT : Toks w B v t1) (ho : Parse.OpsAt w) => parse_toks hT ho s1.endsOnce s1.small
  have hp2 := fun (w : World) (B : Nat) (v : Value) (hT : Toks w B v t2) (ho : Parse.OpsAt w) => parse_toks hT ho s2.endsOnce s2.small
  have hbr : (Parse.parseAll (t0.map ptOf)).2.2 = 0 → (Parse.parseAll (t1.map ptOf)).2.2 = 0 →
      ∃ nsA nsB nsC X Y Z, Parse.parseAll (t0.map ptOf) = (nsA, 0, 0) ∧ Parse.parseAll (t1.map ptOf) = (nsB, 0, 0) ∧ Parse.parseAll (t2.map ptOf) = (nsC, 0, 0) ∧ JndOk nsA nsB nsC X Y Z ∧ nsA.length ≤ 4000 ∧ nsB.length ≤ 4000 := by
    intro e0 e1
    obtain ⟨X, Y, Z, nsA, nsB, nsC, k1, k2, k3, k4, k5, k6, k7, k8⟩ := src_joined s0 s1 s2 e0 e1
    exact ⟨nsA, nsB, nsC, X, Y, Z, k1, k2, k3, ⟨k4, k5, k6, k7, k8⟩, nodes_few s0 k1, nodes_few s1 k2⟩
  obtain ⟨Q, hQ⟩ : ∃ Q, Q = Parse.parseAll (t0.map ptOf) := ⟨_, rfl⟩
  obtain ⟨R, hR⟩ : ∃ R, R = Parse.parseAll (t1.map ptOf) := ⟨_, rfl⟩
  obtain ⟨S, hS⟩ : ∃ S, S = Parse.parseAll (t2.map ptOf) := ⟨_, rfl⟩
  rw [← hQ] at hp0 hbr
  rw [← hR] at hp1 hbr
  rw [← hS] at hp2 hbr
  subst ha
  have hszI : (s.size : Int) ≤ 140737488351232 := by omega
  have htzI : (t.size : Int) ≤ 140737488351232 := by omega
  have H0 := Lib.hid h0
  have H1 := Lib.hid h1
  have H2 := Lib.hid h2
  have HO := Lib.hid ho
  have HP0 := Lib.hid hp0
  have HP1 := Lib.hid hp1
  have HP2 := Lib.hid hp2
  have HBR := Lib.hid hbr
  clear h0 h1 h2 ho hp0 hp1 hp2 hbr hda s0 s1 s2 hQ hR hS
  go_enter Tryd.func6, Tryd.ntmps6
  go_wp2_with fail
  refine (H0.out _).mono ?_
  rintro e w1 ⟨v1, rfl, hT0, hb1⟩
  go_wp2_with fail
  refine (H1.out _).mono ?_
  rintro e w2 ⟨v2, rfl, hT1, hb2⟩
  go_wp2_with fail
  refine (H2.out _).mono ?_
  rintro e w3 ⟨v3, rfl, hT2, hb3⟩
  have K0 := Lib.hid (((TokRow.toks hT0).below hb2).below hb3)
  have K1 := Lib.hid ((TokRow.toks hT1).below hb3)
  have K2 := Lib.hid (TokRow.toks hT2)
  have HBW := Lib.hid ((hb1.trans (hb2.mono hb1.size)).trans (hb3.mono (Nat.le_trans hb1.size hb2.size)))
  have HOW := Lib.hid (OpsAt.below HO.out HBW.out)
  clear hb1 hb2 hb3 hT0 hT1 hT2
  go_wp2_with fail
  refine (HP0.out _ _ _ K0.out HOW.out).mono ?_
  rintro e w5 ⟨nv5, rfl, hN5, hb5⟩
  obtain ⟨p5, c5, hv5⟩ := (nodes_r hN5).form
  subst hv5
  have hB5 := HBW.out.trans (hb5.mono HBW.out.size)
  have HW5 : Hid (∀ o : Obj, Parse.OpsAt (w5.alloc o) ∧ Below w.heap.size w (w5.alloc o) ∧ Below w3.heap.size w3 (w5.alloc o)) := Lib.hid fun o =>
    ⟨OpsAt.below HO.out (hB5.alloc hB5.size _), hB5.alloc hB5.size _, hb5.alloc hb5.size _⟩
  have HN5 := Lib.hid (nodes_r hN5)
  clear hN5 hb5 hB5
  go_wp2_with fail
  refine (HP1.out _ _ _ (K1.out.below (HW5.out _).2.2) (HW5.out _).1).mono ?_
  rintro e w6 ⟨nv6, rfl, hN6, hb6⟩
  obtain ⟨p6, c6, hv6⟩ := (nodes_r hN6).form
  subst hv6
  obtain ⟨o5, ho5⟩ : ∃ o5 : Obj, o5 = .cells #[.slice p5 Q.1.length c5] 28 := ⟨_, rfl⟩
  rw [← ho5] at hb6
  have hB6 := (HW5.out o5).2.1.trans (hb6.mono (HW5.out o5).2.1.size)
  have hB36 := (HW5.out o5).2.2.trans (hb6.mono (HW5.out o5).2.2.size)
  have HW6 : Hid (∀ o : Obj, Parse.OpsAt (w6.alloc o) ∧ Below w.heap.size w (w6.alloc o) ∧ Below w3.heap.size w3 (w6.alloc o)) := Lib.hid fun o =>
    ⟨OpsAt.below HO.out (hB6.alloc hB6.size _), hB6.alloc hB6.size _, hB36.alloc hB36.size _⟩
  have h5 : (w5.alloc o5).heap[w5.heap.size]? = some (.cells #[.slice p5 Q.1.length c5] 28 (0, 0)) := by rw [ho5]; exact heap_alloc_new w5 _
  have g5 := (hb6.block w5.heap.size (by rw [World.size_alloc]; exact Nat.lt_succ_self _)).trans h5
  have HN56 := Lib.hid ((HN5.out.below ((Below.refl _ _).alloc (Nat.le_refl _) o5)).below hb6)
  have HN6 := Lib.hid (nodes_r hN6)
  clear hN6 hb6 hB6 hB36 h5 ho5
  go_wp2_with fail
  refine (HP2.out _ _ _ (K2.out.below (HW6.out _).2.2) (HW6.out _).1).mono ?_
  rintro e w7 ⟨nv7, rfl, hN7, hb7⟩
  obtain ⟨p7, c7, hv7⟩ := (nodes_r hN7).form
  subst hv7
  obtain ⟨o6, ho6⟩ : ∃ o6 : Obj, o6 = .cells #[.slice p6 R.1.length c6] 28 := ⟨_, rfl⟩
  rw [← ho6] at hb7
  have hB7 := (HW6.out o6).2.1.trans (hb7.mono (HW6.out o6).2.1.size)
  have HW7 : Hid (∀ o : Obj, Parse.OpsAt (w7.alloc o) ∧ Below w.heap.size w (w7.alloc o) ∧ Below w7.heap.size w7 (w7.alloc o)) := Lib.hid fun o =>
    ⟨OpsAt.below HO.out (hB7.alloc hB7.size _), hB7.alloc hB7.size _, (Below.refl _ _).alloc (Nat.le_refl _) _⟩
  have h6 : (w6.alloc o6).heap[w6.heap.size]? = some (.cells #[.slice p6 R.1.length c6] 28 (0, 0)) := by rw [ho6]; exact heap_alloc_new w6 _
  have l5 : w5.heap.size < w6.heap.size := lt_of_block g5
  have g56 := (hb7.block w5.heap.size (by rw [World.size_alloc]; omega)).trans ((Below.heap_alloc w6 o6 w5.heap.size l5).trans g5)
  have g6 := (hb7.block w6.heap.size (by rw [World.size_alloc]; exact Nat.lt_succ_self _)).trans h6
  have HA7 := Lib.hid ((HN56.out.below ((Below.refl _ _).alloc (Nat.le_refl _) o6)).below hb7)
  have HB7 := Lib.hid ((HN6.out.below ((Below.refl _ _).alloc (Nat.le_refl _) o6)).below hb7)
  have HC7 := Lib.hid (nodes_r hN7)
  have l6 : w6.heap.size < w7.heap.size := lt_of_block g6
  have l57 : w5.heap.size < w7.heap.size := lt_of_block g56
  clear hN7 hb7 hB7 h6 ho6 g5
  by_cases he : Q.2.2 = 0 ∧ R.2.2 = 0
  · have e1 : (Q.2.2 != 0) = false := by rw [he.1]; rfl
    have e2 : (R.2.2 != 0) = false := by rw [he.2]; rfl
    obtain ⟨nsA, nsB, nsC, X, Y, Z, hQ, hR, hS, hok, hfew1, hfew2⟩ := HBR.out he.1 he.2
    subst hQ hR hS
    have HAL := Lib.hid hok
    obtain ⟨n, hn⟩ : ∃ n, n = X.length := ⟨_, rfl⟩
    obtain ⟨m, hm⟩ : ∃ m, m = Y.length := ⟨_, rfl⟩
    obtain ⟨ba, hba⟩ := hok.ea
    obtain ⟨bb, hbb⟩ := hok.eb
    obtain ⟨bc, hbc⟩ := hok.ec
    have hla : nsA.length = n + 1 := by rw [hba, hn]; simp
    have hlb : nsB.length = m + 1 := by rw [hbb, hm]; simp
    have hlc : nsC.length = n + m + 1 := by rw [hbc, hn, hm]; simp [hok.len]
    have hfa := NodesR.form2 HA7.out (by rw [hla]; omega)
    have hfb := NodesR.form2 HB7.out (by rw [hlb]; omega)
    have hfc := NodesR.form2 HC7.out (by rw [hlc]; omega)
    obtain ⟨ga, ca, hva, hcapa, hgla⟩ := hfa
    obtain ⟨gb, cb, hvb, hcapb, hglb⟩ := hfb
    obtain ⟨gc, cc, hvc, hcapc, hglc⟩ := hfc
    injection hva with hva1 _ hva2
    injection hvb with hvb1 _ hvb2
    injection hvc with hvc1 _ hvc2
    subst hva1 hva2 hvb1 hvb2 hvc1 hvc2
    rw [hla] at hcapa
    rw [hlb] at hcapb
    rw [hlc] at hcapc
    have HLA := Lib.hid hla
    have HLB := Lib.hid hlb
    have HLC := Lib.hid hlc
    have q5 := cell_of_one g56
    have q6 := cell_of_one g6
    simp only [hla] at q5
    simp only [hlb] at q6
    simp only [hla, hlb, hlc]
    have hn4 : n ≤ 4000 := by omega
    have hm4 : m ≤ 4000 := by omega
    have hn4I : (n : Int) ≤ 4000 := by omega
    have hm4I : (m : Int) ≤ 4000 := by omega
    clear hfew1 hfew2
    have HNX := Lib.hid hn
    have HMY := Lib.hid hm
    clear he hok hn hm hba hbb hbc hla hlb hlc g56 g6
    obtain ⟨hca1, hca2⟩ := hcapa
    obtain ⟨hcb1, hcb2⟩ := hcapb
    obtain ⟨hcc1, hcc2⟩ := hcapc
    go_wp2
    obtain ⟨W7, hW7⟩ : ∃ W7, W7 = w7.alloc (.cells #[.slice (some ⟨gc, 0, none⟩) (n + m + 1) c7] 28) := ⟨_, rfl⟩
    rw [← hW7]
    have hb77 : Below w7.heap.size w7 W7 := by rw [hW7]; exact (HW7.out _).2.2
    have r5 := (hb77.cell (p := ⟨w5.heap.size, 0, none⟩) l57).trans q5
    have r6 := (hb77.cell (p := ⟨w6.heap.size, 0, none⟩) l6).trans q6
    have r7 : W7.cell? ⟨w7.heap.size, 0, none⟩ = some (.slice (some ⟨gc, 0, none⟩) (n + m + 1) c7) := by rw [hW7]; exact cell_of_one (heap_alloc_new w7 _)
    have HWW : Hid (Parse.OpsAt W7 ∧ Below w.heap.size w W7) := Lib.hid (by rw [hW7]; exact ⟨(HW7.out _).1, (HW7.out _).2.1⟩)
    have HA := Lib.hid (HA7.out.below hb77)
    have HB := Lib.hid (HB7.out.below hb77)
    have HC := Lib.hid (HC7.out.below hb77)
    have m5 := Nat.lt_of_lt_of_le l57 hb77.size
    have m6 := Nat.lt_of_lt_of_le l6 hb77.size
    have m7 : w7.heap.size < W7.heap.size := by rw [hW7, World.size_alloc]; omega
    have na := Nat.lt_of_lt_of_le hgla hb77.size
    have nb := Nat.lt_of_lt_of_le hglb hb77.size
    have nc := Nat.lt_of_lt_of_le hglc hb77.size
    clear q5 q6 HW7 HA7 HB7 HC7 hW7 hb77 l5 l6 l57 hgla hglb hglc
    go_loopw [20] (fun i wr => ∃ k : Nat, k ≤ n + m ∧ i = .int .i64 k ∧ Below W7.heap.size W7 wr) (fun i _ => n + m - (intOf i).toNat)
    case atStart => exact ⟨0, Nat.zero_le _, rfl, Below.refl _ _⟩
    case round =>
      obtain ⟨k, hk, rfl, hbw⟩ := hrel
      have s5 := (hbw.cell (p := ⟨w5.heap.size, 0, none⟩) m5).trans r5
      have s6 := (hbw.cell (p := ⟨w6.heap.size, 0, none⟩) m6).trans r6
      have s7 := (hbw.cell (p := ⟨w7.heap.size, 0, none⟩) m7).trans r7
      have za := Nat.lt_of_lt_of_le na hbw.size
      have zb := Nat.lt_of_lt_of_le nb hbw.size
      have zc := Nat.lt_of_lt_of_le nc hbw.size
      have z5 := Nat.lt_of_lt_of_le m5 hbw.size
      have z6 := Nat.lt_of_lt_of_le m6 hbw.size
      have z7 := Nat.lt_of_lt_of_le m7 hbw.size
      by_cases hlt : k < n + m
      · obtain ⟨bc, hbc⟩ := HAL.out.ec
        obtain ⟨z, hz⟩ : ∃ z, Z[k]? = some z := ⟨_, List.getElem?_eq_getElem (by rw [HAL.out.len, ← HNX.out, ← HMY.out]; exact hlt)⟩
        have hz' : nsC[k]? = some z := by rw [hbc, List.getElem?_append_left (List.getElem?_eq_some_iff.1 hz).1]; exact hz
        obtain ⟨pz, cz, ⟨d0, d1, d2, d3, d4, d5, d6, d7⟩, _⟩ := node_at (HC.out.below hbw) rfl hz'
        obtain ⟨x, hx, e1, e2, e3, e4⟩ := HAL.out.rel k z hz
        have f1 : ((z.kind : Int) != x.kind) = false := by rw [e1]; simp
        have f2 : ((z.op : Int) != x.op) = false := by rw [e2]; simp
        have f4 : (((z.num : Nat) : Int) != (x.num : Int)) = false := by rw [e4]; simp
        rw [e3] at d6
        have i0 : (0 : Int) ≤ k := by omega
        have i1 : (k : Int) < (n : Int) + m := by omega
        have i2 : (k : Int) < (n : Int) + m + 1 := by omega
        by_cases hkn : k < n
        · obtain ⟨ba, hba⟩ := HAL.out.ea
          have hx' : nsA[k]? = some x := by
            rw [List.getElem?_append_left (by rw [← HNX.out]; exact hkn)] at hx
            rw [hba, List.getElem?_append_left (List.getElem?_eq_some_iff.1 hx).1]; exact hx
          obtain ⟨px, cx, ⟨a0, a1, a2, a3, a4, a5, a6, a7⟩, _⟩ := node_at (HA.out.below hbw) rfl hx'
          have i3 : (k : Int) < n := by omega
          have i4 : (k : Int) < (n : Int) + 1 := by omega
          have HBW := Lib.hid hbw
          clear hx hx' hz hz' e1 e2 e3 e4 hbc hba hbw
          go_wp2
          go_quiet (fail)
          go_wp2
          exact ⟨⟨k + 1, by omega, by go_num, ((HBW.out.alloc HBW.out.size _).trans ⟨rfl, rfl, rfl, Nat.le_refl _, fun _ _ => rfl⟩)⟩, by simp [intOf]; omega⟩
        · obtain ⟨bb, hbb⟩ := HAL.out.eb
          obtain ⟨j, rfl⟩ : ∃ j, k = n + j := ⟨k - n, by omega⟩
          have hx' : nsB[j]? = some x := by
            rw [List.getElem?_append_right (by rw [← HNX.out]; omega), ← HNX.out, Nat.add_sub_cancel_left] at hx
            rw [hbb, List.getElem?_append_left (List.getElem?_eq_some_iff.1 hx).1]; exact hx
          obtain ⟨px, cx, ⟨a0, a1, a2, a3, a4, a5, a6, a7⟩, _⟩ := node_at (HB.out.below hbw) rfl hx'
          have i3 : (n : Int) ≤ (n : Int) + j := by omega
          have i4 : (j : Int) < (m : Int) + 1 := by omega
          have HBW := Lib.hid hbw
          clear hx hx' hz hz' e1 e2 e3 e4 hbc hbb hbw
          have hj : ((n : Int) + j - (n + 1) + 1).toNat = j := by omega
          have hj0 : (0 : Int) ≤ (n : Int) + j - (n + 1) + 1 := by omega
          have hj1 : (n : Int) + j - (n + 1) + 1 < (m : Int) + 1 := by omega
          rw [← hj] at a0 a1 a2 a3 a4 a5 a6 a7
          clear hj
          go_wp2
          go_quiet (fail)
          go_wp2
          exact ⟨⟨n + j + 1, by omega, by go_num, ((HBW.out.alloc HBW.out.size _).trans ⟨rfl, rfl, rfl, Nat.le_refl _, fun _ _ => rfl⟩)⟩, by simp [intOf]; omega⟩
      · obtain rfl : k = n + m := by omega
        have HBW := Lib.hid (HWW.out.2.trans (hbw.mono HWW.out.2.size))
        have HOW := Lib.hid (OpsAt.below HWW.out.1 hbw)
        clear hbw
        go_wp2_with fail
        refine (live_any _ HOW.out).mono ?_
        rintro e w8 ⟨rfl, hb8⟩
        go_wp2
        go_ret
        exact ⟨rfl, HBW.out.trans (hb8.mono HBW.out.size)⟩
  · obtain ⟨e1, he1⟩ : ∃ e1, (Q.2.2 != 0) = e1 := ⟨_, rfl⟩
    obtain ⟨e2, he2⟩ : ∃ e2, (R.2.2 != 0) = e2 := ⟨_, rfl⟩
    have hee : (e1 || e2) = true := by
      rw [← he1, ← he2]
      simp only [Bool.or_eq_true, bne_iff_ne]
      omega
    clear he
    cases e1 <;> cases e2 <;> (try (simp at hee; done))
    all_goals
      clear hee
      go_wp2_with (first | (go_at_call 9; refine (live_any _ (HW7.out _).1).mono ?_; rintro e w8 ⟨rfl, hb8⟩))
      go_ret
      exact ⟨rfl, (HW7.out _).2.1.trans (hb8.mono (HW7.out _).2.1.size)⟩

theorem joined_any (s t : ByteArray) (hsz : s.size ≤ 140737488351232) (htz : t.size ≤ 140737488351232) (w : World) (ho : Parse.OpsAt w) : Calls Tryd.prog 6 #[.string s, .string t] w fun e w' => e = .returned (.bool true) ∧ Below w.heap.size w w' := by
  obtain ⟨a, ha⟩ : ∃ a : ByteArray, a = s ++ ⟨#[10]⟩ ++ t := ⟨_, rfl⟩
  have h0 := lexB s
  have h1 := lexB t
  have h2 := lexB a
  by_cases h : (lexAll s.data.toList).2.2 = 0 ∧ (lexAll t.data.toList).2.2 = 0 ∧ (lexAll a.data.toList).2.2 = 0
  · obtain ⟨e0, e1, e2⟩ := h
    obtain ⟨u0, s0⟩ := src_of e0
    obtain ⟨u1, s1⟩ := src_of e1
    obtain ⟨u2, s2⟩ := src_of e2
    rw [e0] at h0
    rw [e1] at h1
    rw [e2] at h2
    exact jnd_all s t a _ _ _ u0 u1 u2 w ho h0 h1 h2 ha s0 s1 s2 hsz htz
  · refine jnd_skip s t a _ _ _ _ _ _ w ho h0 h1 h2 ha ?_ hsz htz
    rw [Bool.eq_false_iff]
    intro hc
    simp only [Bool.and_eq_true, decide_eq_true_eq] at hc
    exact h ⟨hc.1.1, hc.1.2, hc.2⟩
end Go.Proofs.YteggenldmkbhiaaDoor
