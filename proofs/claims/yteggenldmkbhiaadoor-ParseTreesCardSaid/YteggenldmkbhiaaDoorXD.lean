/- The law ParseBlocks: the walk. -/
import Derived.Test.YteggenldmkbhiaaDoorXC
namespace Go.Proofs.YteggenldmkbhiaaDoor
open Go.RowKit

set_option maxHeartbeats 4000000 in
set_option maxRecDepth 100000 in
theorem blk_skip (s a b : ByteArray) (x y z : Bool) (t0 t1 t2 : List PTok) (w : World) (ho : Parse.OpsAt w) (h0 : LexB s x t0) (h1 : LexB a y t1) (h2 : LexB b z t2)
    (ha : a = ⟨#[105, 110, 116, 32, 102, 40, 41, 123]⟩ ++ s ++ ⟨#[10, 125]⟩) (hb : b = ⟨#[105, 110, 116, 32, 102, 40, 41, 123, 123]⟩ ++ s ++ ⟨#[10, 125, 125]⟩) (hf : (x && y && z) = false) (hsz : s.size ≤ 140737488351232) :
    Calls Tryd.prog 7 #[.string s] w fun e w' => e = .returned (.bool true) ∧ Below w.heap.size w w' := by
  subst ha hb
  have hszI : (s.size : Int) ≤ 140737488351232 := by omega
  have H0 := Lib.hid h0
  have H1 := Lib.hid h1
  have H2 := Lib.hid h2
  have HO := Lib.hid ho
  clear h0 h1 h2 ho
  go_enter Tryd.func7, Tryd.ntmps7
  go_wp2_with fail
  refine (H0.out _).mono ?_
  rintro e w1 ⟨v1, rfl, _, hb1⟩
  go_wp2_with fail
  refine (H1.out _).mono ?_
  rintro e w2 ⟨v2, rfl, _, hb2⟩
  go_wp2_with fail
  refine (H2.out _).mono ?_
  rintro e w3 ⟨v3, rfl, _, hb3⟩
  have HBW := Lib.hid ((hb1.trans (hb2.mono hb1.size)).trans (hb3.mono (Nat.le_trans hb1.size hb2.size)))
  have HOW := Lib.hid (OpsAt.below HO.out HBW.out)
  clear hb1 hb2 hb3
  cases x <;> cases y <;> cases z <;> (try (simp at hf; done))
  all_goals
    clear hf
    go_wp2_with (first | (go_at_call 9; refine (live_any _ HOW.out).mono ?_; rintro e w4 ⟨rfl, hb4⟩))
    go_ret
    exact ⟨rfl, HBW.out.trans (hb4.mono HBW.out.size)⟩

theorem node_at {w : World} {v : Value} {ns : List Parse.PN} {g cap : Nat} {n : Nat} (h : NodesR w v ns) (hv : v = .slice (some ⟨g, 0, none⟩) n cap) {i : Nat} {x : Parse.PN} (hx : ns[i]? = some x) : ∃ p c, NodeR w g i x (.slice p x.kids.length c) ∧ KidsR w (.slice p x.kids.length c) x.kids := by
  rcases h with ⟨rfl, _⟩ | ⟨g', cap', h1, _, _, _, h6⟩
  · simp at hx
  · rw [hv] at h1
    injection h1 with h1 _ _
    injection h1 with h1
    injection h1 with h1
    subst h1
    obtain ⟨kv, h7, h8⟩ := h6 i x hx
    obtain ⟨p, c, rfl⟩ := h8.form
    exact ⟨p, c, h7, h8⟩
theorem NodesR.form2 {w : World} {v : Value} {ns : List Parse.PN} (h : NodesR w v ns) (hn : 0 < ns.length) : ∃ g c, v = .slice (some ⟨g, 0, none⟩) ns.length c ∧ (ns.length ≤ c ∧ c ≤ 9223372036854775807) ∧ g < w.heap.size := by
  rcases h with ⟨rfl, _⟩ | ⟨g, cap, rfl, h1, h2, _⟩
  · simp at hn
  · exact ⟨g, cap, rfl, h1, h2⟩

/-- What the plain side says of the two trees. -/
structure BlkOk (A B X Y : List Parse.PN) : Prop where
  al : Parse.AlikeL X Y
  la : A.length = X.length + 3
  lb : B.length = X.length + 4
  at_ : ∀ i, i < X.length → A[i]? = X[i]? ∧ B[i]? = Y[i]?
  two : ∃ b c, B[X.length]? = some b ∧ B[X.length + 1]? = some c ∧ b.kind = 22 ∧ c.kind = 22

set_option maxHeartbeats 8000000 in
set_option maxRecDepth 100000 in
theorem blk_all (s a b : ByteArray) (t0 t1 t2 : List PTok) (u0 u1 u2 : List Tok) (w : World) (ho : Parse.OpsAt w) (h0 : LexB s true t0) (h1 : LexB a true t1) (h2 : LexB b true t2)
    (ha : a = ⟨#[105, 110, 116, 32, 102, 40, 41, 123]⟩ ++ s ++ ⟨#[10, 125]⟩) (hb : b = ⟨#[105, 110, 116, 32, 102, 40, 41, 123, 123]⟩ ++ s ++ ⟨#[10, 125, 125]⟩)
    (s0 : Src s.data.toList t0 u0) (s1 : Src a.data.toList t1 u1) (s2 : Src b.data.toList t2 u2) (hsz : s.size ≤ 140737488351232) :
    Calls Tryd.prog 7 #[.string s] w fun e w' => e = .returned (.bool true) ∧ Below w.heap.size w w' := by
  have hda : a.data.toList = headF ++ (s.data.toList ++ [10, 125]) := by rw [ha, append_data, append_data]; simp [headF]
  have hdb : b.data.toList = headG ++ (s.data.toList ++ [10, 125, 125]) := by rw [hb, append_data, append_data]; simp [headG]
  rw [hda] at s1
  rw [hdb] at s2
  have hpl := fun (B : Nat) (v : Value) (w : World) (hT : Toks w B v t0) => closed_any t0 v B w hT (by have := s0.len; have := s0.many; omega)
  have hp1 := fun (w : World) (B : Nat) (v : Value) (hT : Toks w B v t1) (ho : Parse.OpsAt w) => parse_toks hT ho s1.endsOnce s1.small
  have hp2 := fun (w : World) (B : Nat) (v : Value) (hT : Toks w B v t2) (ho : Parse.OpsAt w) => parse_toks hT ho s2.endsOnce s2.small
  have hbr : (∀ k, k ≤ t0.length → 0 ≤ bra (t0.map (·.1)) k) → (Parse.parseAll (t1.map ptOf)).2.2 = 0 → ∃ nsA nsB X Y, Parse.parseAll (t1.map ptOf) = (nsA, 0, 0) ∧ Parse.parseAll (t2.map ptOf) = (nsB, 0, 0) ∧ BlkOk nsA nsB X Y := by
    intro hc he
    obtain ⟨X, Y, nsA, nsB, e1, e2, e3, e4, e5, e6, e7⟩ := src_blocks s0 s1 s2 (fun k hk => by
      have h := hc k (by rw [s0.len]; omega)
      rw [s0.toks] at h
      have : ∀ (us : List Tok) (k : Nat), k ≤ us.length → bra (us ++ [endTok]) k = bra us k := by
        intro us
        induction us with
        | nil => intro k hk; simp at hk; subst hk; rfl
        | cons t us ih =>
          intro k hk
          cases k with
          | zero => rfl
          | succ k => simp only [List.cons_append, bra]; rw [ih k (by simpa using hk)]
      rw [this u0 k hk] at h
      exact h) he
    exact ⟨nsA, nsB, X, Y, e1, e2, e3, e4, e5, e6, e7⟩
  obtain ⟨R, hR⟩ : ∃ R, R = Parse.parseAll (t1.map ptOf) := ⟨_, rfl⟩
  obtain ⟨S, hS⟩ : ∃ S, S = Parse.parseAll (t2.map ptOf) := ⟨_, rfl⟩
  rw [← hR] at hp1 hbr
  rw [← hS] at hp2 hbr
  subst ha hb
  have hszI : (s.size : Int) ≤ 140737488351232 := by omega
  have H0 := Lib.hid h0
  have H1 := Lib.hid h1
  have H2 := Lib.hid h2
  have HO := Lib.hid ho
  have HP1 := Lib.hid hp1
  have HP2 := Lib.hid hp2
  have HPL := Lib.hid hpl
  have HBR := Lib.hid hbr
  clear h0 h1 h2 ho hp1 hp2 hpl hbr hda hdb s0 s1 s2 hR hS
  go_enter Tryd.func7, Tryd.ntmps7
  go_wp2_with fail
  refine (H0.out _).mono ?_
  rintro e w1 ⟨v1, rfl, hT0, hb1⟩
  go_wp2_with fail
  refine (H1.out _).mono ?_
  rintro e w2 ⟨v2, rfl, hT1, hb2⟩
  go_wp2_with fail
  refine (H2.out _).mono ?_
  rintro e w3 ⟨v3, rfl, hT2, hb3⟩
  have K0 := Lib.hid (((TokRow.toks hT0).below hb2).below hb3)
  have K1 := Lib.hid ((TokRow.toks hT1).below hb3)
  have K2 := Lib.hid (TokRow.toks hT2)
  have HBW := Lib.hid ((hb1.trans (hb2.mono hb1.size)).trans (hb3.mono (Nat.le_trans hb1.size hb2.size)))
  have HOW := Lib.hid (OpsAt.below HO.out HBW.out)
  clear hb1 hb2 hb3 hT0 hT1 hT2
  go_wp2_with fail
  refine (HPL.out _ _ _ K0.out).mono ?_
  rintro e w4 ⟨b, rfl, hbt, hb4⟩
  have HB4 := Lib.hid (HBW.out.trans (hb4.mono HBW.out.size))
  have HO4 := Lib.hid (OpsAt.below HO.out HB4.out)
  have K14 := Lib.hid (K1.out.below hb4)
  have K24 := Lib.hid (K2.out.below hb4)
  have HBT := Lib.hid hbt
  clear hb4 hbt
  cases b with
  | false =>
    go_wp2_with fail
    refine (live_any _ HO4.out).mono ?_
    rintro e w5 ⟨rfl, hb5⟩
    go_wp2
    go_ret
    exact ⟨rfl, HB4.out.trans (hb5.mono HB4.out.size)⟩
  | true =>
    go_wp2_with fail
    refine (HP1.out _ _ _ K14.out HO4.out).mono ?_
    rintro e w5 ⟨nv, rfl, hN5, hb5⟩
    have hB5 := HB4.out.trans (hb5.mono HB4.out.size)
    have HW5 : Hid (∀ o : Obj, Parse.OpsAt (w5.alloc o) ∧ Below w.heap.size w (w5.alloc o) ∧ Below w4.heap.size w4 (w5.alloc o)) := Lib.hid fun o =>
      ⟨OpsAt.below HO.out (hB5.alloc hB5.size _), hB5.alloc hB5.size _, hb5.alloc hb5.size _⟩
    have HN5 := Lib.hid (nodes_r hN5)
    clear hN5 hb5 hB5
    by_cases he : R.2.2 = 0
    · have e1 : (R.2.2 != 0) = false := by rw [he]; rfl
      obtain ⟨nsA, nsB, X, Y, hRA, hSB, hok⟩ := HBR.out (HBT.out (by first | rfl | trivial)) he
      have HAL := Lib.hid hok
      subst hRA hSB
      obtain ⟨n, hn⟩ : ∃ n, n = X.length := ⟨_, rfl⟩
      obtain ⟨g5, c5, hv, hcap5, hgl5⟩ := NodesR.form2 HN5.out (by rw [hok.la]; omega)
      subst hv
      rw [show nsA.length = n + 3 by rw [hok.la, hn]] at hcap5
      have HLA := Lib.hid (show nsA.length = n + 3 by rw [hok.la, hn])
      have HLB := Lib.hid (show nsB.length = n + 4 by rw [hok.lb, hn])
      have HNX := Lib.hid hn
      clear he hok hn
      go_wp2_with fail
      refine (HP2.out _ _ _ (K24.out.below (HW5.out _).2.2) (HW5.out _).1).mono ?_
      rintro e w6 ⟨nv, rfl, hN6, hb6⟩
      obtain ⟨g6, c6, hv, hcap6, hgl6⟩ := NodesR.form2 (nodes_r hN6) (by rw [HLB.out]; omega)
      subst hv
      rw [HLB.out] at hcap6
      have q5 : (w5.alloc (.cells #[.slice (some ⟨g5, 0, none⟩) nsA.length c5] 28)).cell? ⟨w5.heap.size, 0, none⟩ = some (.slice (some ⟨g5, 0, none⟩) nsA.length c5) := cell_of_one (heap_alloc_new w5 _)
      have q6 := (hb6.cell (p := ⟨w5.heap.size, 0, none⟩) (by rw [World.size_alloc]; exact Nat.lt_succ_self _)).trans q5
      rw [HLA.out] at q6
      rw [HLA.out, HLB.out]
      have l6 : w5.heap.size < w6.heap.size := by have := hb6.size; rw [World.size_alloc] at this; omega
      have HA6 := Lib.hid ((HN5.out.below ((Below.refl _ _).alloc (Nat.le_refl _) _)).below hb6)
      have HB6 := Lib.hid (nodes_r hN6)
      have hB6 := (HW5.out (.cells #[.slice (some ⟨g5, 0, none⟩) nsA.length c5] 28)).2.1.trans (hb6.mono (HW5.out _).2.1.size)
      have HW6 : Hid (∀ o : Obj, Parse.OpsAt (w6.alloc o) ∧ Below w.heap.size w (w6.alloc o) ∧ Below w6.heap.size w6 (w6.alloc o)) := Lib.hid fun o =>
        ⟨OpsAt.below HO.out (hB6.alloc hB6.size _), hB6.alloc hB6.size _, (Below.refl _ _).alloc (Nat.le_refl _) _⟩
      have l5 : g5 < w6.heap.size := by have := hb6.size; rw [World.size_alloc] at this; omega
      clear hN6 hb6 hB6 q5 hgl5
      obtain ⟨hca1, hca2⟩ := hcap5
      obtain ⟨hcb1, hcb2⟩ := hcap6
      have hn9 : n ≤ 9223372036854775803 := by omega
      have hn9I : (n : Int) ≤ 9223372036854775803 := by omega
      go_wp2
      obtain ⟨W7, hW7⟩ : ∃ W7, W7 = w6.alloc (.cells #[.slice (some ⟨g6, 0, none⟩) (n + 4) c6] 28) := ⟨_, rfl⟩
      rw [← hW7]
      have r5 : W7.cell? ⟨w5.heap.size, 0, none⟩ = some (.slice (some ⟨g5, 0, none⟩) (n + 3) c5) := by rw [hW7]; exact (((Below.refl _ _).alloc (Nat.le_refl _) _).cell (p := ⟨w5.heap.size, 0, none⟩) l6).trans q6
      have r6 : W7.cell? ⟨w6.heap.size, 0, none⟩ = some (.slice (some ⟨g6, 0, none⟩) (n + 4) c6) := by rw [hW7]; exact cell_of_one (heap_alloc_new w6 _)
      have HW7 : Hid (Parse.OpsAt W7 ∧ Below w.heap.size w W7) := Lib.hid (by rw [hW7]; exact ⟨(HW6.out _).1, (HW6.out _).2.1⟩)
      have HA7 : Hid (NodesR W7 (.slice (some ⟨g5, 0, none⟩) nsA.length c5) nsA) := Lib.hid (by rw [hW7]; exact HA6.out.below (HW6.out _).2.2)
      have HB7 : Hid (NodesR W7 (.slice (some ⟨g6, 0, none⟩) nsB.length c6) nsB) := Lib.hid (by rw [hW7]; exact HB6.out.below (HW6.out _).2.2)
      have m5 : w5.heap.size < W7.heap.size := by rw [hW7, World.size_alloc]; omega
      have m6 : w6.heap.size < W7.heap.size := by rw [hW7, World.size_alloc]; omega
      have n5 : g5 < W7.heap.size := by rw [hW7, World.size_alloc]; omega
      have n6 : g6 < W7.heap.size := by rw [hW7, World.size_alloc]; omega
      clear q6 HW6 HA6 HB6 hW7 l5 l6 hgl6
      go_loopw [15] (fun i wr => ∃ k q : Nat, k ≤ n ∧ i = .int .i64 k ∧ wr = W7.drewN q) (fun i _ => n - (intOf i).toNat)
      case atStart => exact ⟨0, 0, Nat.zero_le _, rfl, rfl⟩
      case round =>
        obtain ⟨k, q, hk, rfl, rfl⟩ := hrel
        by_cases hlt : k < n
        · obtain ⟨x, hx⟩ : ∃ x, X[k]? = some x := ⟨_, List.getElem?_eq_getElem (by rw [← HNX.out]; exact hlt)⟩
          obtain ⟨y, hy⟩ : ∃ y, Y[k]? = some y := ⟨_, List.getElem?_eq_getElem (by rw [HAL.out.al.len, ← HNX.out]; exact hlt)⟩
          have hal := HAL.out.al.at hx hy
          obtain ⟨ex, ey⟩ := HAL.out.at_ k (by rw [← HNX.out]; exact hlt)
          obtain ⟨px, cx, ⟨a0, a1, a2, a3, a4, a5, a6, a7⟩, hkx⟩ := node_at HA7.out rfl (ex.trans hx)
          obtain ⟨py, cy, ⟨d0, d1, d2, d3, d4, d5, d6, d7⟩, hky⟩ := node_at HB7.out rfl (ey.trans hy)
          obtain ⟨e1, e2, e3, e4, e5, e6⟩ := alike_facts hal
          rw [e6] at hky d7
          have hI : ∀ m, Calls Tryd.prog 15 #[.slice px x.kids.length cx, .slice py x.kids.length cy] ((W7.drewN q).drewN m) fun e w2 => e = .returned (.bool true) ∧ ∃ m', w2 = ((W7.drewN q).drewN m).drewN m' := fun m =>
            ints_q x.kids _ _ _ (hkx.below (w' := (W7.drewN q).drewN m) ⟨rfl, rfl, rfl, Nat.le_refl _, fun _ _ => rfl⟩) (hky.below (w' := (W7.drewN q).drewN m) ⟨rfl, rfl, rfl, Nat.le_refl _, fun _ _ => rfl⟩)
          obtain ⟨wq, hwq⟩ : ∃ x, x = W7.drewN q := ⟨_, rfl⟩
          have b0 : wq.cell? ⟨g5, k * 8, none⟩ = some (.int .i64 x.kind) := by rw [hwq]; exact a0
          have b2 : wq.cell? ⟨g5, k * 8 + 2, none⟩ = some (.int .i64 x.op) := by rw [hwq]; exact a2
          have b7 : wq.cell? ⟨g5, k * 8 + 7, none⟩ = some (.slice px x.kids.length cx) := by rw [hwq]; exact a7
          have f0 : wq.cell? ⟨g6, k * 8, none⟩ = some (.int .i64 y.kind) := by rw [hwq]; exact d0
          have f2 : wq.cell? ⟨g6, k * 8 + 2, none⟩ = some (.int .i64 y.op) := by rw [hwq]; exact d2
          have f7 : wq.cell? ⟨g6, k * 8 + 7, none⟩ = some (.slice py x.kids.length cy) := by rw [hwq]; exact d7
          have s5 : wq.cell? ⟨w5.heap.size, 0, none⟩ = some (.slice (some ⟨g5, 0, none⟩) (n + 3) c5) := by rw [hwq]; exact r5
          have s6 : wq.cell? ⟨w6.heap.size, 0, none⟩ = some (.slice (some ⟨g6, 0, none⟩) (n + 4) c6) := by rw [hwq]; exact r6
          rw [← hwq] at hI ⊢
          have HI := Lib.hid hI
          have HWQ := Lib.hid hwq
          have i0 : (0 : Int) ≤ k := by omega
          have i1 : (k : Int) < n := by omega
          have u1 : (k : Int) < (n : Int) + 3 := by omega
          have u2 : (k : Int) < (n : Int) + 4 := by omega
          have z1 : g5 < wq.heap.size := by rw [hwq]; exact n5
          have z2 : g6 < wq.heap.size := by rw [hwq]; exact n6
          clear hx hy hal ex ey a0 a1 a2 a3 a4 a5 a6 a7 d0 d1 d2 d3 d4 d5 d6 d7 hkx hky e3 e4 e5 e6 hI hwq
          go_wp2
          go_quiet (first | (go_at_call 15; exact Calls.quiet_of (HI.out _)))
          go_wp2
          exact ⟨⟨k + 1, q + nq, by omega, by go_num, by rw [HWQ.out, World.drewN_drewN]⟩, by simp [intOf]; omega⟩
        · obtain ⟨bb, cc, hbb, hcc, hb22, hc22⟩ := HAL.out.two
          rw [← HNX.out] at hbb hcc
          obtain ⟨_, _, ⟨d0, _⟩, _⟩ := node_at HB7.out rfl hbb
          obtain ⟨_, _, ⟨d1, _⟩, _⟩ := node_at HB7.out rfl hcc
          rw [hb22] at d0
          rw [hc22] at d1
          obtain rfl : k = n := by omega
          have HWW : Hid (Parse.OpsAt (W7.drewN q) ∧ Below w.heap.size w (W7.drewN q)) := Lib.hid ⟨HW7.out.1, HW7.out.2.trans ⟨rfl, rfl, rfl, Nat.le_refl _, fun _ _ => rfl⟩⟩
          obtain ⟨wq, hwq⟩ : ∃ x, x = W7.drewN q := ⟨_, rfl⟩
          have f0 : wq.cell? ⟨g6, k * 8, none⟩ = some (.int .i64 22) := by rw [hwq]; exact d0
          have f1 : wq.cell? ⟨g6, (k + 1) * 8, none⟩ = some (.int .i64 22) := by rw [hwq]; exact d1
          have s5 : wq.cell? ⟨w5.heap.size, 0, none⟩ = some (.slice (some ⟨g5, 0, none⟩) (k + 3) c5) := by rw [hwq]; exact r5
          have s6 : wq.cell? ⟨w6.heap.size, 0, none⟩ = some (.slice (some ⟨g6, 0, none⟩) (k + 4) c6) := by rw [hwq]; exact r6
          rw [← hwq] at HWW ⊢
          have z2 : g6 < wq.heap.size := by rw [hwq]; exact n6
          clear hbb hcc d0 d1 hwq hb22 hc22
          go_wp2_with fail
          refine (live_any _ HWW.out.1).mono ?_
          rintro e w8 ⟨rfl, hb8⟩
          go_wp2
          go_ret
          exact ⟨rfl, HWW.out.2.trans (hb8.mono HWW.out.2.size)⟩
    · obtain ⟨p5, c5, hv⟩ := HN5.out.form
      subst hv
      have e1 : (R.2.2 != 0) = true := by rw [bne_iff_ne]; exact he
      clear he
      go_wp2_with fail
      refine (live_any _ (HW5.out _).1).mono ?_
      rintro e w6 ⟨rfl, hb6⟩
      go_wp2
      go_ret
      exact ⟨rfl, (HW5.out _).2.1.trans (hb6.mono (HW5.out _).2.1.size)⟩

theorem blocks_any (s : ByteArray) (hsz : s.size ≤ 140737488351232) (w : World) (ho : Parse.OpsAt w) : Calls Tryd.prog 7 #[.string s] w fun e w' => e = .returned (.bool true) ∧ Below w.heap.size w w' := by
  obtain ⟨a, ha⟩ : ∃ a : ByteArray, a = ⟨#[105, 110, 116, 32, 102, 40, 41, 123]⟩ ++ s ++ ⟨#[10, 125]⟩ := ⟨_, rfl⟩
  obtain ⟨b, hb⟩ : ∃ b : ByteArray, b = ⟨#[105, 110, 116, 32, 102, 40, 41, 123, 123]⟩ ++ s ++ ⟨#[10, 125, 125]⟩ := ⟨_, rfl⟩
  have h0 := lexB s
  have h1 := lexB a
  have h2 := lexB b
  by_cases h : (lexAll s.data.toList).2.2 = 0 ∧ (lexAll a.data.toList).2.2 = 0 ∧ (lexAll b.data.toList).2.2 = 0
  · obtain ⟨e0, e1, e2⟩ := h
    obtain ⟨u0, s0⟩ := src_of e0
    obtain ⟨u1, s1⟩ := src_of e1
    obtain ⟨u2, s2⟩ := src_of e2
    rw [e0] at h0
    rw [e1] at h1
    rw [e2] at h2
    exact blk_all s a b _ _ _ u0 u1 u2 w ho h0 h1 h2 ha hb s0 s1 s2 hsz
  · refine blk_skip s a b _ _ _ _ _ _ w ho h0 h1 h2 ha hb ?_ hsz
    rw [Bool.eq_false_iff]
    intro hc
    simp only [Bool.and_eq_true, decide_eq_true_eq] at hc
    exact h ⟨hc.1.1, hc.1.2, hc.2⟩
end Go.Proofs.YteggenldmkbhiaaDoor
