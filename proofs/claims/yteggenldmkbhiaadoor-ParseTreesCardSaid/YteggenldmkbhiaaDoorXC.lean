/- The law ParseBrackets. -/
import Derived.Test.YteggenldmkbhiaaDoorXA
namespace Go.Proofs.YteggenldmkbhiaaDoor
open Go.RowKit

theorem alike_facts {x y : Parse.PN} (h : Parse.AlikeN x y) : ((x.kind != y.kind) = false) ∧ ((x.op != y.op) = false) ∧ ((x.type != y.type) = false) ∧ (((x.num : Int) != (y.num : Int)) = false) ∧ y.name = x.name ∧ y.kids = x.kids := by
  obtain ⟨a, b, c, d, e, f⟩ := h
  rw [a, b, c, d]
  simp [e, f]

set_option maxHeartbeats 8000000 in
set_option maxRecDepth 100000 in
theorem alike_any (A B : List Parse.PN) (va vb : Value) (w : World) (ha : NodesR w va A) (hb : NodesR w vb B) (hal : Parse.AlikeL A B) :
    Calls Tryd.prog 12 #[va, vb] w fun e w' => e = .returned (.bool true) ∧ Below w.heap.size w w' := by
  have hlen := hal.len
  rcases ha with ⟨rfl, p, c, rfl⟩ | ⟨g, cap, rfl, hcap, hgl, hne, hc⟩
  · have : B = [] := List.eq_nil_of_length_eq_zero (by simpa using hlen)
    subst this
    rcases hb with ⟨_, p', c', rfl⟩ | ⟨_, _, _, _, _, hne, _⟩
    · go_enter Tryd.func12, Tryd.ntmps12
      go_wp2
      go_loop [5] (fun i => i = .int .i64 0) (fun _ => 0)
      case atStart => rfl
      case round =>
        subst hrel
        go_wp2
        go_ret
        exact ⟨rfl, Below.refl _ _⟩
    · exact absurd rfl hne
  · have hne2 : B ≠ [] := by intro h; subst h; simp at hlen; exact hne (List.eq_nil_of_length_eq_zero hlen.symm)
    rcases hb with ⟨h, _⟩ | ⟨g', cap', rfl, hcap', hgl', _, hcb⟩
    · exact absurd h hne2
    · have HA := Lib.hid hc
      have HB := Lib.hid hcb
      have HL := Lib.hid hal
      obtain ⟨n, hN⟩ : ∃ n, n = A.length := ⟨_, rfl⟩
      have hM : B.length = n := by rw [hlen, hN]
      rw [hlen, ← hN] at hcap'
      rw [← hN] at hcap
      rw [← hN, hM]
      have HN := Lib.hid hN
      have HM := Lib.hid hM
      obtain ⟨m1, m2⟩ := hcap
      obtain ⟨m3, m4⟩ := hcap'
      have m5 : n ≤ 9223372036854775807 := by omega
      clear hc hcb hne hne2 hN hM hlen hal m2 m4
      go_enter Tryd.func12, Tryd.ntmps12
      go_wp2
      go_loopw [5] (fun i wr => ∃ k : Nat, k ≤ n ∧ i = .int .i64 k ∧ Below w.heap.size w wr) (fun i _ => n - (intOf i).toNat)
      case atStart => exact ⟨0, Nat.zero_le _, rfl, Below.refl _ _⟩
      case round =>
        obtain ⟨k, hk, rfl, hbw⟩ := hrel
        by_cases hlt : k < n
        · obtain ⟨x, hx⟩ : ∃ x, A[k]? = some x := ⟨_, List.getElem?_eq_getElem (by rw [← HN.out]; exact hlt)⟩
          obtain ⟨y, hy⟩ : ∃ y, B[k]? = some y := ⟨_, List.getElem?_eq_getElem (by rw [HM.out]; exact hlt)⟩
          obtain ⟨kx, ⟨a0, a1, a2, a3, a4, a5, a6, a7⟩, hkx⟩ := HA.out k x hx
          obtain ⟨ky, ⟨d0, d1, d2, d3, d4, d5, d6, d7⟩, hky⟩ := HB.out k y hy
          have hq : ∀ j, wr.cell? ⟨g, j, none⟩ = w.cell? ⟨g, j, none⟩ := fun j => hbw.cell (p := ⟨g, j, none⟩) hgl
          have hq' : ∀ j, wr.cell? ⟨g', j, none⟩ = w.cell? ⟨g', j, none⟩ := fun j => hbw.cell (p := ⟨g', j, none⟩) hgl'
          have b0 := (hq _).trans a0
          have b1 := (hq _).trans a1
          have b2 := (hq _).trans a2
          have b3 := (hq _).trans a3
          have b4 := (hq _).trans a4
          have b5 := (hq _).trans a5
          have b6 := (hq _).trans a6
          have b7 := (hq _).trans a7
          have q0 := (hq' _).trans d0
          have q1 := (hq' _).trans d1
          have q2 := (hq' _).trans d2
          have q3 := (hq' _).trans d3
          have q4 := (hq' _).trans d4
          have q5 := (hq' _).trans d5
          have q6 := (hq' _).trans d6
          have q7 := (hq' _).trans d7
          obtain ⟨e1, e2, e3, e4, e5, e6⟩ := alike_facts (HL.out.at hx hy)
          rw [e6] at hky
          rw [e5] at q6
          obtain ⟨px, cx, hvx⟩ := hkx.form
          obtain ⟨py, cy, hvy⟩ := hky.form
          subst hvx hvy
          have hI : ∀ w', Below wr.heap.size wr w' → Calls Tryd.prog 15 #[.slice px x.kids.length cx, .slice py x.kids.length cy] w' fun e w2 => e = .returned (.bool true) ∧ Below w'.heap.size w' w2 := fun w' hb' =>
            ints_any x.kids _ _ w' ((hkx.below hbw).below hb') ((hky.below hbw).below hb')
          have HI := Lib.hid hI
          have l0 : g < wr.heap.size := Nat.lt_of_lt_of_le hgl hbw.size
          have l1 : g' < wr.heap.size := Nat.lt_of_lt_of_le hgl' hbw.size
          have i0 : (0 : Int) ≤ k := by omega
          have i1 : (k : Int) < n := by omega
          have i2 : (n : Int) ≤ 9223372036854775807 := by omega
          have HBW := Lib.hid hbw
          clear hx hy hbw a0 a1 a2 a3 a4 a5 a6 a7 d0 d1 d2 d3 d4 d5 d6 d7 hq hq' hkx hky hI e5 e6
          have H2 : Hid (∀ o o' : Obj, Below wr.heap.size wr ((wr.alloc o).alloc o')) := Lib.hid fun o o' => ((Below.refl _ _).alloc (Nat.le_refl _) _).alloc (by rw [World.size_alloc]; omega) _
          go_wp2_with fail
          refine (HI.out _ (H2.out _ _)).mono ?_
          rintro e w2 ⟨rfl, hb2⟩
          have HB2 := Lib.hid (HBW.out.trans (((H2.out _ _).trans (hb2.mono (H2.out _ _).size)).mono HBW.out.size))
          clear hb2
          go_wp2
          go_roundw
          case rel => exact ⟨k + 1, by omega, by go_num, by first | exact HB2.out | exact HB2.out.drew⟩
          case measure => simp [intOf]; omega
        · obtain rfl : k = n := by omega
          have HBW := Lib.hid hbw
          clear hbw
          go_wp2
          go_ret
          exact ⟨rfl, HBW.out⟩
end Go.Proofs.YteggenldmkbhiaaDoor
namespace Go.Proofs.YteggenldmkbhiaaDoor
open Go.RowKit

def HM : ByteArray := ⟨#[105, 110, 116, 32, 109, 97, 105, 110, 40, 41, 123, 114, 101, 116, 117, 114, 110, 32]⟩
def HB : ByteArray := ⟨#[105, 110, 116, 32, 109, 97, 105, 110, 40, 41, 123, 114, 101, 116, 117, 114, 110, 32, 40]⟩
def LexB (s : ByteArray) (x : Bool) (ts : List PTok) : Prop := ∀ w, Calls Tryd.prog 8 #[.string s] w fun e w' => ∃ v, e = .returned (.tuple #[v, .bool x]) ∧ TokRow w' w.heap.size v ts ∧ Below w.heap.size w w'
theorem lexB (s : ByteArray) : LexB s (decide ((lexAll s.data.toList).2.2 = 0)) (lexAll s.data.toList).1 := tokens_any s

set_option maxHeartbeats 4000000 in
set_option maxRecDepth 100000 in
theorem brk_skip (s a b : ByteArray) (x y z : Bool) (t0 t1 t2 : List PTok) (w : World) (ho : Parse.OpsAt w) (h0 : LexB s x t0) (h1 : LexB a y t1) (h2 : LexB b z t2)
    (ha : a = ⟨#[105, 110, 116, 32, 109, 97, 105, 110, 40, 41, 123, 114, 101, 116, 117, 114, 110, 32]⟩ ++ s ++ ⟨#[10, 59, 125]⟩) (hb : b = ⟨#[105, 110, 116, 32, 109, 97, 105, 110, 40, 41, 123, 114, 101, 116, 117, 114, 110, 32, 40]⟩ ++ s ++ ⟨#[10, 41, 59, 125]⟩) (hf : (x && y && z) = false) (hsz : s.size ≤ 140737488351232) :
    Calls Tryd.prog 4 #[.string s] w fun e w' => e = .returned (.bool true) ∧ Below w.heap.size w w' := by
  subst ha hb
  have hszI : (s.size : Int) ≤ 140737488351232 := by omega
  have H0 := Lib.hid h0
  have H1 := Lib.hid h1
  have H2 := Lib.hid h2
  have HO := Lib.hid ho
  clear h0 h1 h2 ho
  go_enter Tryd.func4, Tryd.ntmps4
  go_wp2_with fail
  refine (H0.out _).mono ?_
  rintro e w1 ⟨v1, rfl, _, hb1⟩
  go_wp2_with fail
  refine (H1.out _).mono ?_
  rintro e w2 ⟨v2, rfl, _, hb2⟩
  go_wp2_with fail
  refine (H2.out _).mono ?_
  rintro e w3 ⟨v3, rfl, _, hb3⟩
  have HBW := Lib.hid ((hb1.trans (hb2.mono hb1.size)).trans (hb3.mono (Nat.le_trans hb1.size hb2.size)))
  have HOW := Lib.hid (OpsAt.below HO.out HBW.out)
  clear hb1 hb2 hb3
  cases x <;> cases y <;> cases z <;> (try (simp at hf; done))
  all_goals
    clear hf
    go_wp2_with (first | (go_at_call 9; refine (live_any _ HOW.out).mono ?_; rintro e w4 ⟨rfl, hb4⟩))
    go_ret
    exact ⟨rfl, HBW.out.trans (hb4.mono HBW.out.size)⟩

set_option maxHeartbeats 8000000 in
set_option maxRecDepth 100000 in
theorem brk_all (s a b : ByteArray) (t0 t1 t2 : List PTok) (u0 u1 u2 : List Tok) (w : World) (ho : Parse.OpsAt w) (h0 : LexB s true t0) (h1 : LexB a true t1) (h2 : LexB b true t2)
    (ha : a = ⟨#[105, 110, 116, 32, 109, 97, 105, 110, 40, 41, 123, 114, 101, 116, 117, 114, 110, 32]⟩ ++ s ++ ⟨#[10, 59, 125]⟩) (hb : b = ⟨#[105, 110, 116, 32, 109, 97, 105, 110, 40, 41, 123, 114, 101, 116, 117, 114, 110, 32, 40]⟩ ++ s ++ ⟨#[10, 41, 59, 125]⟩)
    (s0 : Src s.data.toList t0 u0) (s1 : Src a.data.toList t1 u1) (s2 : Src b.data.toList t2 u2) (hsz : s.size ≤ 140737488351232) :
    Calls Tryd.prog 4 #[.string s] w fun e w' => e = .returned (.bool true) ∧ Below w.heap.size w w' := by
  have hda : a.data.toList = headM ++ (s.data.toList ++ [10, 59, 125]) := by rw [ha, append_data, append_data]; simp [headM]
  have hdb : b.data.toList = headB ++ (s.data.toList ++ [10, 41, 59, 125]) := by rw [hb, append_data, append_data]; simp [headB]
  rw [hda] at s1
  rw [hdb] at s2
  have hpl := fun (B : Nat) (v : Value) (w : World) (hT : Toks w B v t0) => plain_any t0 v B w hT (by have := s0.len; have := s0.many; omega)
  have hp1 := fun (w : World) (B : Nat) (v : Value) (hT : Toks w B v t1) (ho : Parse.OpsAt w) => parse_toks hT ho s1.endsOnce s1.small
  have hp2 := fun (w : World) (B : Nat) (v : Value) (hT : Toks w B v t2) (ho : Parse.OpsAt w) => parse_toks hT ho s2.endsOnce s2.small
  have hbr : (∀ t ∈ t0, okT t = true) → 2 ≤ t0.length → (Parse.parseAll (t1.map ptOf)).2.2 = 0 → ∃ nsA nsB, Parse.parseAll (t1.map ptOf) = (nsA, 0, 0) ∧ Parse.parseAll (t2.map ptOf) = (nsB, 0, 0) ∧ Parse.AlikeL nsA nsB := by
    intro hok h2 he
    refine src_brackets s0 s1 s2 (fun t ht hS => ?_) (by intro e; have := s0.len; rw [e] at this; simp at this; omega) he
    have hm : t ∈ t0.map (·.1) := by rw [s0.toks]; exact List.mem_append_left _ ht
    obtain ⟨p, hp, rfl⟩ := List.mem_map.1 hm
    have := hok p hp
    obtain ⟨q1, q2⟩ := hS
    simp [okT, q1, q2] at this
  obtain ⟨n0, hn0⟩ : ∃ n, n = t0.length := ⟨_, rfl⟩
  obtain ⟨R, hR⟩ : ∃ R, R = Parse.parseAll (t1.map ptOf) := ⟨_, rfl⟩
  obtain ⟨S, hS⟩ : ∃ S, S = Parse.parseAll (t2.map ptOf) := ⟨_, rfl⟩
  rw [← hR] at hp1 hbr
  rw [← hS] at hp2 hbr
  rw [← hn0] at hbr
  have hn4 : n0 ≤ 4000 := by have := s0.len; have := s0.many; omega
  subst ha hb
  have hszI : (s.size : Int) ≤ 140737488351232 := by omega
  have H0 := Lib.hid h0
  have H1 := Lib.hid h1
  have H2 := Lib.hid h2
  have HO := Lib.hid ho
  have HP1 := Lib.hid hp1
  have HP2 := Lib.hid hp2
  have HPL := Lib.hid hpl
  have HBR := Lib.hid hbr
  have HN := Lib.hid hn0
  clear h0 h1 h2 ho hp1 hp2 hpl hbr hn0 hda hdb s0 s1 s2 hR hS
  go_enter Tryd.func4, Tryd.ntmps4
  go_wp2_with fail
  refine (H0.out _).mono ?_
  rintro e w1 ⟨v1, rfl, hT0, hb1⟩
  obtain ⟨g0, c0, hv⟩ := tok_form hT0
  rw [← HN.out] at hv
  subst hv
  go_wp2_with fail
  refine (H1.out _).mono ?_
  rintro e w2 ⟨v2, rfl, hT1, hb2⟩
  go_wp2_with fail
  refine (H2.out _).mono ?_
  rintro e w3 ⟨v3, rfl, hT2, hb3⟩
  have K0 := Lib.hid (((TokRow.toks hT0).below hb2).below hb3)
  have K1 := Lib.hid ((TokRow.toks hT1).below hb3)
  have K2 := Lib.hid (TokRow.toks hT2)
  have HBW := Lib.hid ((hb1.trans (hb2.mono hb1.size)).trans (hb3.mono (Nat.le_trans hb1.size hb2.size)))
  have HOW := Lib.hid (OpsAt.below HO.out HBW.out)
  clear hb1 hb2 hb3 hT0 hT1 hT2
  go_wp2_with fail
  refine (HPL.out _ _ _ K0.out).mono ?_
  rintro e w4 ⟨b, rfl, hbt, hb4⟩
  have HB4 := Lib.hid (HBW.out.trans (hb4.mono HBW.out.size))
  have HO4 := Lib.hid (OpsAt.below HO.out HB4.out)
  have K14 := Lib.hid (K1.out.below hb4)
  have K24 := Lib.hid (K2.out.below hb4)
  have HBT := Lib.hid hbt
  clear hb4 hbt
  cases b with
  | false =>
    go_wp2_with fail
    refine (live_any _ HO4.out).mono ?_
    rintro e w5 ⟨rfl, hb5⟩
    go_wp2
    go_ret
    exact ⟨rfl, HB4.out.trans (hb5.mono HB4.out.size)⟩
  | true =>
    by_cases hn2 : n0 < 2
    · have hn2I : (n0 : Int) < 2 := by omega
      go_wp2_with fail
      refine (live_any _ HO4.out).mono ?_
      rintro e w5 ⟨rfl, hb5⟩
      go_wp2
      go_ret
      exact ⟨rfl, HB4.out.trans (hb5.mono HB4.out.size)⟩
    · have hn2I : (2 : Int) ≤ n0 := by omega
      go_wp2_with fail
      refine (HP1.out _ _ _ K14.out HO4.out).mono ?_
      rintro e w5 ⟨nv, rfl, hN5, hb5⟩
      obtain ⟨p5, c5, hv⟩ := (nodes_r hN5).form
      subst hv
      have hB5 := HB4.out.trans (hb5.mono HB4.out.size)
      have HW5 : Hid (∀ o : Obj, Parse.OpsAt (w5.alloc o) ∧ Below w.heap.size w (w5.alloc o) ∧ Below w4.heap.size w4 (w5.alloc o)) := Lib.hid fun o =>
        ⟨OpsAt.below HO.out (hB5.alloc hB5.size _), hB5.alloc hB5.size _, hb5.alloc hb5.size _⟩
      have HN5 := Lib.hid (nodes_r hN5)
      clear hN5 hb5 hB5
      by_cases he : R.2.2 = 0
      · have e1 : (R.2.2 != 0) = false := by rw [he]; rfl
        obtain ⟨nsA, nsB, hRA, hSB, hal⟩ := HBR.out (HBT.out (by first | rfl | trivial)) (by omega) he
        have HAL := Lib.hid hal
        subst hRA hSB
        clear he hal
        go_wp2_with fail
        refine (HP2.out _ _ _ (K24.out.below (HW5.out _).2.2) (HW5.out _).1).mono ?_
        rintro e w6 ⟨nv, rfl, hN6, hb6⟩
        obtain ⟨p6, c6, hv⟩ := (nodes_r hN6).form
        subst hv
        have q5 : (w5.alloc (.cells #[.slice p5 nsA.length c5] 28)).cell? ⟨w5.heap.size, 0, none⟩ = some (.slice p5 nsA.length c5) := cell_of_one (heap_alloc_new w5 _)
        have q6 := (hb6.cell (p := ⟨w5.heap.size, 0, none⟩) (by rw [World.size_alloc]; exact Nat.lt_succ_self _)).trans q5
        have l6 : w5.heap.size < w6.heap.size := by have := hb6.size; rw [World.size_alloc] at this; omega
        have HA6 := Lib.hid ((HN5.out.below ((Below.refl _ _).alloc (Nat.le_refl _) _)).below hb6)
        have HB6 := Lib.hid (nodes_r hN6)
        have hB6 := (HW5.out (.cells #[.slice p5 nsA.length c5] 28)).2.1.trans (hb6.mono (HW5.out _).2.1.size)
        have HW6 : Hid (∀ o : Obj, Parse.OpsAt (w6.alloc o) ∧ Below w.heap.size w (w6.alloc o) ∧ Below w6.heap.size w6 (w6.alloc o)) := Lib.hid fun o =>
          ⟨OpsAt.below HO.out (hB6.alloc hB6.size _), hB6.alloc hB6.size _, (Below.refl _ _).alloc (Nat.le_refl _) _⟩
        clear hN6 hb6 hB6 q5
        go_wp2_with fail
        refine (alike_any nsA nsB _ _ _ (HA6.out.below (HW6.out _).2.2) (HB6.out.below (HW6.out _).2.2) HAL.out).mono ?_
        rintro e w7 ⟨rfl, hb7⟩
        go_wp2_with fail
        refine (live_any _ (OpsAt.below (HW6.out _).1 hb7)).mono ?_
        rintro e w8 ⟨rfl, hb8⟩
        go_wp2
        go_ret
        exact ⟨rfl, ((HW6.out _).2.1.trans (hb7.mono (HW6.out _).2.1.size)).trans (hb8.mono (Nat.le_trans (HW6.out _).2.1.size hb7.size))⟩
      · have e1 : (R.2.2 != 0) = true := by rw [bne_iff_ne]; exact he
        clear he
        go_wp2_with fail
        refine (live_any _ (HW5.out _).1).mono ?_
        rintro e w6 ⟨rfl, hb6⟩
        go_wp2
        go_ret
        exact ⟨rfl, (HW5.out _).2.1.trans (hb6.mono (HW5.out _).2.1.size)⟩

theorem brackets_any (s : ByteArray) (hsz : s.size ≤ 140737488351232) (w : World) (ho : Parse.OpsAt w) : Calls Tryd.prog 4 #[.string s] w fun e w' => e = .returned (.bool true) ∧ Below w.heap.size w w' := by
  obtain ⟨a, ha⟩ : ∃ a : ByteArray, a = ⟨#[105, 110, 116, 32, 109, 97, 105, 110, 40, 41, 123, 114, 101, 116, 117, 114, 110, 32]⟩ ++ s ++ ⟨#[10, 59, 125]⟩ := ⟨_, rfl⟩
  obtain ⟨b, hb⟩ : ∃ b : ByteArray, b = ⟨#[105, 110, 116, 32, 109, 97, 105, 110, 40, 41, 123, 114, 101, 116, 117, 114, 110, 32, 40]⟩ ++ s ++ ⟨#[10, 41, 59, 125]⟩ := ⟨_, rfl⟩
  have h0 := lexB s
  have h1 := lexB a
  have h2 := lexB b
  by_cases h : (lexAll s.data.toList).2.2 = 0 ∧ (lexAll a.data.toList).2.2 = 0 ∧ (lexAll b.data.toList).2.2 = 0
  · obtain ⟨e0, e1, e2⟩ := h
    obtain ⟨u0, s0⟩ := src_of e0
    obtain ⟨u1, s1⟩ := src_of e1
    obtain ⟨u2, s2⟩ := src_of e2
    rw [e0] at h0
    rw [e1] at h1
    rw [e2] at h2
    exact brk_all s a b _ _ _ u0 u1 u2 w ho h0 h1 h2 ha hb s0 s1 s2 hsz
  · refine brk_skip s a b _ _ _ _ _ _ w ho h0 h1 h2 ha hb ?_ hsz
    rw [Bool.eq_false_iff]
    intro hc
    simp only [Bool.and_eq_true, decide_eq_true_eq] at hc
    exact h ⟨hc.1.1, hc.1.2, hc.2⟩
end Go.Proofs.YteggenldmkbhiaaDoor
