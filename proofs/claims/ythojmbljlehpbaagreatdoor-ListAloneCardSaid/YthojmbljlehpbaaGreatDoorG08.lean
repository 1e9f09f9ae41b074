/- The program's small functions on lines: what each returns. No condition but that lists lie as they say. -/
import Derived.Test.YthojmbljlehpbaaGreatDoorG06
import Derived.Test.YthojmbljlehpbaaGreatDoorG07
import Derived.Deep.RegionHeld3
import Derived.Deep.DeepCutAuto
import Derived.Maps.OwnOps
import Derived.IntWalk
namespace Go.Proofs.YthojmbljlehpbaaGreatDoor.Relax
open Go.RowKit Go.Proofs.YthojmbljlehpbaaGreatDoor.Enc Go.Proofs.YthojmbljlehpbaaGreatDoor.Graph Go.Maps

set_option maxHeartbeats 2000000 in
theorem branches_prog (n : Int) (w : World) : Calls Tryz.prog 82 #[.int .i64 n] w fun e w' => e = .returned (.bool (brB n)) ∧ w' = w := by
  go_enter Tryz.func82, Tryz.ntmps82
  go_wp2
  all_goals go_ret
  all_goals refine ⟨Relax.ret_bool ?_, rfl⟩
  all_goals (rw [Bool.eq_iff_iff]; simp_all [brB] <;> omega)
set_option maxHeartbeats 2000000 in
theorem isLabel_prog (n : Int) (w : World) : Calls Tryz.prog 134 #[.int .i64 n] w fun e w' => e = .returned (.bool (labelB n)) ∧ w' = w := by
  go_enter Tryz.func134, Tryz.ntmps134
  go_wp2
  all_goals go_ret
  all_goals refine ⟨Relax.ret_bool ?_, rfl⟩
  all_goals (rw [Bool.eq_iff_iff]; simp_all [labelB] <;> omega)
set_option maxHeartbeats 2000000 in
theorem near_prog (n : Int) (w : World) : Calls Tryz.prog 116 #[.int .i64 n] w fun e w' => e = .returned (.bool (nearB n)) ∧ w' = w := by
  go_enter Tryz.func116, Tryz.ntmps116
  go_wp2
  all_goals go_ret
  all_goals refine ⟨Relax.ret_bool ?_, rfl⟩
  all_goals (rw [Bool.eq_iff_iff]; simp_all [nearB] <;> omega)
set_option maxHeartbeats 2000000 in
theorem leads_prog (n : Int) (w : World) : Calls Tryz.prog 115 #[.int .i64 n] w fun e w' => e = .returned (.bool (leadB n)) ∧ w' = w := by
  obtain ⟨br, hbr⟩ : ∃ br, brB n = br := ⟨_, rfl⟩
  have HB := Lib.hid (fun w => hbr ▸ branches_prog n w)
  have HE := Lib.hid hbr
  clear hbr
  cases br
  all_goals
    go_enter Tryz.func115, Tryz.ntmps115
    go_wp2_with (go_at_call 82; refine (HB.out _).mono ?_; rintro e w2 ⟨rfl, rfl⟩)
    all_goals go_ret
    all_goals refine ⟨Relax.ret_bool ?_, rfl⟩
    all_goals (have hE := HE.out; clear HE HB; unfold leadB; simp_all)
set_option maxHeartbeats 2000000 in
theorem other_prog (n : Int) (h : 30 ≤ n ∧ n ≤ 39) (w : World) : Calls Tryz.prog 118 #[.int .i64 n] w fun e w' => e = .returned (.int .i64 (otherP n)) ∧ w' = w := by
  have h : n = 30 ∨ n = 31 ∨ n = 32 ∨ n = 33 ∨ n = 34 ∨ n = 35 ∨ n = 36 ∨ n = 37 ∨ n = 38 ∨ n = 39 := by omega
  rcases h with rfl | rfl | rfl | rfl | rfl | rfl | rfl | rfl | rfl | rfl
  all_goals
    go_enter Tryz.func118, Tryz.ntmps118
    go_wp2
    go_ret
    exact ⟨by kernel_rfl, rfl⟩
set_option maxHeartbeats 2000000 in
theorem codeOf_prog (x : PL) (p : Option Addr) (n c : Nat) (w : World) : Calls Tryz.prog 86 #[lineV x p n c] w fun e w' => e = .returned (cV (codeOf x)) ∧ Below w.heap.size w w' := by
  obtain ⟨op, a, b, imm, nn, label, list⟩ := x
  unfold lineV codeOf cV
  go_enter Tryz.func86, Tryz.ntmps86
  go_wp2
  refine bodyPost_ret (v := .agg #[.int .i64 op, .int .i64 a, .int .i64 b, .int .i64 imm]) ?_ rfl ⟨rfl, (below_one _ _).alloc (by simp) _⟩
  simp [results, Tryz.results86, go_sem]
set_option maxHeartbeats 2000000 in
theorem labelFits_prog (x : PL) (p : Option Addr) (n c : Nat) (w : World) : Calls Tryz.prog 113 #[lineV x p n c] w fun e w' => e = .returned (.bool (labelFitsB x)) ∧ Below w.heap.size w w' := by
  obtain ⟨op, a, b, imm, nn, label, list⟩ := x
  obtain ⟨br, hbr⟩ : ∃ br, leadB op = br := ⟨_, rfl⟩
  obtain ⟨lb, hlb⟩ : ∃ lb, labelB label = lb := ⟨_, rfl⟩
  have HB := Lib.hid (fun w => hbr ▸ leads_prog op w)
  have HL := Lib.hid (fun w => hlb ▸ isLabel_prog label w)
  have HE := Lib.hid hbr
  have HF := Lib.hid hlb
  clear hbr hlb
  unfold lineV
  by_cases h0 : op = 0
  · subst h0
    go_enter Tryz.func113, Tryz.ntmps113
    go_wp2_with (go_at_call 134; refine (HL.out _).mono ?_; rintro e w2 ⟨rfl, rfl⟩)
    go_ret
    exact ⟨Relax.ret_bool (by unfold labelFitsB; rw [if_pos (.inl rfl)]; exact HF.out.symm), below_one _ _⟩
  · have e1 : (op == 0) = false := by simpa using h0
    cases br
    · have HG := Lib.hid (show labelFitsB ⟨op, a, b, imm, nn, label, list⟩ = (label == 0) by
        unfold labelFitsB; rw [if_neg (by rw [HE.out]; simp [h0])])
      clear h0
      go_enter Tryz.func113, Tryz.ntmps113
      go_wp2_with (go_at_call 115; refine (HB.out _).mono ?_; rintro e w2 ⟨rfl, rfl⟩)
      go_ret
      exact ⟨Relax.ret_bool (by rw [HG.out]), below_one _ _⟩
    · have HG := Lib.hid (show labelFitsB ⟨op, a, b, imm, nn, label, list⟩ = lb by
        unfold labelFitsB; rw [if_pos (.inr HE.out)]; exact HF.out)
      clear h0
      go_enter Tryz.func113, Tryz.ntmps113
      go_wp2_with (first | (go_at_call 115; refine (HB.out _).mono ?_; rintro e w2 ⟨rfl, rfl⟩) | (go_at_call 134; refine (HL.out _).mono ?_; rintro e w2 ⟨rfl, rfl⟩))
      go_ret
      exact ⟨Relax.ret_bool (by rw [HG.out]), below_one _ _⟩
end Go.Proofs.YthojmbljlehpbaaGreatDoor.Relax
namespace Go.Proofs.YthojmbljlehpbaaGreatDoor.Relax
open Go.RowKit Go.Proofs.YthojmbljlehpbaaGreatDoor.Enc Go.Proofs.YthojmbljlehpbaaGreatDoor.Graph Go.Maps

set_option maxHeartbeats 2000000 in
theorem operandsFit_prog (x : PL) (p : Option Addr) (n c : Nat) (w : World) (hF : FormsAt w) : Calls Tryz.prog 112 #[lineV x p n c] w fun e w' => e = .returned (.bool (operandsB x)) ∧ Below w.heap.size w w' := by
  obtain ⟨br, hbr⟩ : ∃ br, brB x.op = br := ⟨_, rfl⟩
  obtain ⟨wd, hwd⟩ : ∃ wd, encP (codeOf x) = wd := ⟨_, rfl⟩
  obtain ⟨wd, er⟩ := wd
  have HB := Lib.hid (fun w => hbr ▸ branches_prog x.op w)
  have HC := Lib.hid (fun w => codeOf_prog x p n c w)
  have HN := Lib.hid (fun (w : World) (hF : FormsAt w) => (enc_any (codeOf x) w hF).mono fun e w' (h : EncPost (codeOf x) w e w') => (⟨by rw [h.1, hwd], h.2⟩ : e = .returned (.tuple #[.int .u32 wd, .int .i64 er]) ∧ Below w.heap.size w w'))
  have HG := Lib.hid (show operandsB x = if x.op = 0 then x.a == 0 && x.b == 0 && x.imm == 0 else er == 0 && (x.imm == 0 || !br) by unfold operandsB; rw [hwd, hbr])
  have hF' := Lib.hid hF
  clear hbr hwd hF
  obtain ⟨op, a, b, imm, nn, label, list⟩ := x
  unfold lineV codeOf cV at *
  simp only at HB HC HN HG
  by_cases h0 : op = 0
  · subst h0
    go_enter Tryz.func112, Tryz.ntmps112
    go_wp2
    all_goals go_ret
    all_goals refine ⟨Relax.ret_bool ?_, below_one _ _⟩
    all_goals (clear HG HB HC HN hF'; simp_all [operandsB])
  · have e1 : (op == 0) = false := by simpa using h0
    have HG2 := Lib.hid (show operandsB ⟨op, a, b, imm, nn, label, list⟩ = (er == 0 && (imm == 0 || !br)) by rw [HG.out, if_neg h0])
    clear HG h0
    go_enter Tryz.func112, Tryz.ntmps112
    cases br
    all_goals
      go_wp2_with (first
        | (go_at_call 86; refine (HC.out _).mono ?_; rintro e w2 ⟨rfl, hb2⟩; have c0 := hb2.cell (p := ⟨w.heap.size, 0, none⟩) (by simp); have c3 := hb2.cell (p := ⟨w.heap.size, 3, none⟩) (by simp); have hz2 : w.heap.size < w2.heap.size := (by have := hb2.size; simp at this; omega); have hF2 := Lib.hid (hF'.out.below (bt (below_one w _) hb2)); have H2 := Lib.hid hb2; clear hb2)
        | (go_at_call 119; refine (HN.out _ hF2.out).mono ?_; rintro e w3 ⟨rfl, hb3⟩; have d0 := (hb3.cell (p := ⟨w.heap.size, 0, none⟩) (by simp <;> omega)); have d3 := (hb3.cell (p := ⟨w.heap.size, 3, none⟩) (by simp <;> omega)); have H3 := Lib.hid hb3; clear hb3)
        | (go_at_call 82; refine (HB.out _).mono ?_; rintro e w4 ⟨rfl, rfl⟩))
      all_goals go_ret
      all_goals refine ⟨Relax.ret_bool ?_, bt (below_one w _) (bt H2.out H3.out)⟩
      all_goals (have hg := HG2.out; clear HG2 HB HC HN hF' hF2 H2 H3; simp_all)
set_option maxHeartbeats 2000000 in
theorem stands_prog (b n : Nat) (l : List PL) (i : Nat) (lab : Int) (hl : 0 ≤ lab ∧ lab ≤ 100000) (w : World) (hM : MapAt w b n l i) :
    Calls Tryz.prog 80 #[.map (some b), .int .i64 lab] w fun e w' => e = .returned (.bool (standsAt l lab i).isSome) ∧ Below w.heap.size w w' := by
  have HM := Lib.hid hM
  have HK := Lib.hid (key_of hl)
  have HH := Lib.hid (mapD_has l lab i)
  clear hM
  go_enter Tryz.func80, Tryz.ntmps80
  go_wp2_with (at_lookup; refine wpList_lookup_own_ok_int _ rfl _ _ 84 rfl 3 3 .i64 law Tryz.underlying84 Tryz.underlying3 (zeroE _) b n (mapD l i) rfl (by first | exact HM.out | exact HM.out.alloc _) _ _ rfl HK.out ?_; intro c hat hwc)
  go_ret
  exact ⟨Relax.ret_bool HH.out, by first | exact Below.refl _ _ | exact below_one _ _⟩
end Go.Proofs.YthojmbljlehpbaaGreatDoor.Relax
namespace Go.Proofs.YthojmbljlehpbaaGreatDoor.Relax
open Go.RowKit Go.Proofs.YthojmbljlehpbaaGreatDoor.Enc Go.Proofs.YthojmbljlehpbaaGreatDoor.Graph Go.Maps

theorem all_take {f : Int → Bool} {l : List Int} {k : Nat} {t : Int} (h : (l.take k).all f = true) (ht : l[k]? = some t) (hf : f t = true) : (l.take (k + 1)).all f = true := by
  rw [List.take_add_one, ht, Option.toList_some, List.all_append, h]; simp [hf]
theorem all_no {f : Int → Bool} {l : List Int} {k : Nat} {t : Int} (ht : l[k]? = some t) (hf : f t = false) : l.all f = false := by
  rw [List.all_eq_false]; exact ⟨t, List.mem_of_getElem? ht, by simp [hf]⟩
set_option maxHeartbeats 4000000 in
set_option maxRecDepth 100000 in
theorem listFits_prog (x : PL) (p : Option Addr) (c : Nat) (w : World) (hL : IntsR w (.slice p x.list.length c) x.list) (hl : x.list.length ≤ 100000000000000) :
    Calls Tryz.prog 114 #[lineV x p x.list.length c] w fun e w' => e = .returned (.bool (listFitsB x)) ∧ Below w.heap.size w w' := by
  obtain ⟨op, a, b, imm, nn, label, list⟩ := x
  obtain ⟨n, hn⟩ : ∃ n, n = list.length := ⟨_, rfl⟩
  simp only at hL hl
  unfold lineV
  simp only
  have HG := Lib.hid (show listFitsB ⟨op, a, b, imm, nn, label, list⟩ = if op = 42 then decide (1 ≤ list.length ∧ list.length ≤ 400) && list.all labelB else list.length == 0 by rfl)
  rw [← hn] at HG hL hl ⊢
  by_cases h0 : op = 42
  case neg =>
    have e1 : (op == 42) = false := by simpa using h0
    have e2 : (op != 42) = true := by simpa using h0
    have HG2 := Lib.hid (show listFitsB ⟨op, a, b, imm, nn, label, list⟩ = (n == 0) by rw [HG.out, if_neg h0])
    clear HG hL h0 hn
    go_enter Tryz.func114, Tryz.ntmps114
    go_wp2
    go_ret
    exact ⟨Relax.ret_bool (by rw [HG2.out]; rw [Bool.eq_iff_iff]; simp), below_one _ _⟩
  subst h0
  have HG2 := Lib.hid (show listFitsB ⟨42, a, b, imm, nn, label, list⟩ = (decide (1 ≤ n ∧ n ≤ 400) && list.all labelB) by rw [HG.out, if_pos rfl])
  clear HG
  have m0 : (n : Int) ≤ 100000000000000 := by omega
  have m1 : (0 : Int) ≤ n := by omega
  rcases Nat.eq_zero_or_pos n with hz | hz
  · subst hz
    clear hL hl hn
    go_enter Tryz.func114, Tryz.ntmps114
    go_wp2
    go_ret
    exact ⟨Relax.ret_bool (by rw [HG2.out]; rfl), below_one _ _⟩
  by_cases h4 : n ≤ 400
  case neg =>
    have e3 : ((n : Int) == 0) = false := by simp; omega
    have e4 : decide ((n : Int) > 400) = true := by simp; omega
    have e5 : decide ((400 : Int) < n) = true := by simp; omega
    have HQ := Lib.hid (show listFitsB ⟨42, a, b, imm, nn, label, list⟩ = false by rw [HG2.out, decide_eq_false (by omega)]; rfl)
    have hp : (0 : Int) < n := by omega
    have hq : (400 : Int) < n := by omega
    clear hL hl hn h4 hz HG2
    go_enter Tryz.func114, Tryz.ntmps114
    go_wp2
    go_ret
    exact ⟨Relax.ret_bool HQ.out.symm, below_one _ _⟩
  have HG3 := Lib.hid (show listFitsB ⟨42, a, b, imm, nn, label, list⟩ = list.all labelB by rw [HG2.out, decide_eq_true (by omega)]; rfl)
  obtain ⟨g, o, cap, h1, hcap, hgl, hc⟩ := SlR.form2 hL (by omega)
  injection h1 with h1 h2 h3
  subst h1 h3
  clear h2
  have HC := Lib.hid hc
  have HN := Lib.hid hn
  have e3 : ((n : Int) == 0) = false := by simp; omega
  have hp : (0 : Int) < n := by omega
  have hq : (n : Int) ≤ 400 := by omega
  obtain ⟨m3, m4⟩ := hcap
  clear hc hL hn HG2 hl
  go_enter Tryz.func114, Tryz.ntmps114
  go_wp2
  go_loopw [25] (fun i wr => ∃ k : Nat, k ≤ n ∧ i = .int .i64 k ∧ Hid ((list.take k).all labelB = true) ∧ Below w.heap.size w wr) (fun i _ => n - (intOf i).toNat)
  case atStart => exact ⟨0, Nat.zero_le _, rfl, Lib.hid rfl, by go_simp; exact below_one w _⟩
  case round =>
    obtain ⟨k, hk, rfl, HT, hbw⟩ := hrel
    by_cases hlt : k < n
    · obtain ⟨t, ht⟩ : ∃ t, list[k]? = some t := ⟨_, List.getElem?_eq_getElem (by rw [← HN.out]; exact hlt)⟩
      have c0 := HC.out k (by rw [← HN.out]; exact hlt) t ht
      rw [Nat.mul_one] at c0
      replace c0 := (hbw.cell (p := ⟨g, o + k, none⟩) hgl).trans c0
      have l0 : g < wr.heap.size := Nat.lt_of_lt_of_le hgl hbw.size
      obtain ⟨lb, hlb⟩ : ∃ lb, labelB t = lb := ⟨_, rfl⟩
      have HL := Lib.hid (fun w => hlb ▸ isLabel_prog t w)
      have HE := Lib.hid hlb
      have HX := Lib.hid ht
      have HBW := Lib.hid hbw
      have i0 : (0 : Int) ≤ k := by omega
      have i1 : (k : Int) < n := by omega
      clear hlb ht hbw
      cases lb
      · go_wp2_with (go_at_call 134; refine (HL.out _).mono ?_; rintro e w2 ⟨rfl, rfl⟩)
        go_ret
        exact ⟨Relax.ret_bool (by rw [HG3.out]; exact (all_no HX.out HE.out).symm), HBW.out⟩
      · go_wp2_with (go_at_call 134; refine (HL.out _).mono ?_; rintro e w2 ⟨rfl, rfl⟩)
        go_roundw
        case rel => exact ⟨k + 1, by omega, by go_num, Lib.hid (all_take HT.out HX.out HE.out), HBW.out⟩
        case measure => simp [intOf]; omega
    · have hkn : k = n := by omega
      subst hkn
      have i1 : ¬ ((k : Int) < (k : Int)) := by omega
      go_wp2
      go_ret
      exact ⟨Relax.ret_bool (by rw [HG3.out]; have := HT.out; rw [HN.out, List.take_length] at this; exact this.symm), hbw⟩
end Go.Proofs.YthojmbljlehpbaaGreatDoor.Relax
namespace Go.Proofs.YthojmbljlehpbaaGreatDoor.Relax
open Go.RowKit Go.Proofs.YthojmbljlehpbaaGreatDoor.Enc Go.Proofs.YthojmbljlehpbaaGreatDoor.Graph Go.Maps

theorem wrongL_ok {x : PL} (h1 : 0 ≤ x.op) (h2 : x.op ≤ 48) : wrongL x = if operandsB x && labelFitsB x && listFitsB x && (x.n == 0 || x.op == 2) then 0 else 171 := by
  unfold wrongL
  rw [if_neg (by omega), may_parts x h1 h2]
theorem keep_box {w w1 w2 : World} {k : Nat} {v : Value} (hb : Below w1.heap.size w1 w2) (hl : w.heap.size < w1.heap.size) (h : w1.cell? ⟨w.heap.size, k, none⟩ = some v) : w2.cell? ⟨w.heap.size, k, none⟩ = some v :=
  (hb.cell (p := ⟨w.heap.size, k, none⟩) hl).trans h
/-- A line's box. -/
structure BoxL (w wr : World) (x : PL) (v : Value) : Prop where
  b : Below w.heap.size w wr
  sz : w.heap.size < wr.heap.size
  c0 : wr.cell? ⟨w.heap.size, 0, none⟩ = some (.int .i64 x.op)
  c1 : wr.cell? ⟨w.heap.size, 1, none⟩ = some (.int .i64 x.a)
  c2 : wr.cell? ⟨w.heap.size, 2, none⟩ = some (.int .i64 x.b)
  c3 : wr.cell? ⟨w.heap.size, 3, none⟩ = some (.int .i64 x.imm)
  c4 : wr.cell? ⟨w.heap.size, 4, none⟩ = some (.int .u32 x.n)
  c5 : wr.cell? ⟨w.heap.size, 5, none⟩ = some (.int .i64 x.label)
  c6 : wr.cell? ⟨w.heap.size, 6, none⟩ = some v
theorem BoxL.start (w : World) (t : TypeId) (x : PL) (v : Value) : BoxL w (w.alloc (.cells #[.int .i64 x.op, .int .i64 x.a, .int .i64 x.b, .int .i64 x.imm, .int .u32 x.n, .int .i64 x.label, v] t)) x v := by
  refine ⟨below_one w _, by simp, ?_, ?_, ?_, ?_, ?_, ?_, ?_⟩ <;> go_simp
theorem BoxL.next {w wr w2 : World} {x : PL} {v : Value} (h : BoxL w wr x v) (hb : Below wr.heap.size wr w2) : BoxL w w2 x v :=
  ⟨bt h.b hb, Nat.lt_of_lt_of_le h.sz hb.size, keep_box hb h.sz h.c0, keep_box hb h.sz h.c1, keep_box hb h.sz h.c2, keep_box hb h.sz h.c3, keep_box hb h.sz h.c4, keep_box hb h.sz h.c5, keep_box hb h.sz h.c6⟩
set_option maxHeartbeats 8000000 in
set_option maxRecDepth 100000 in
theorem wrong_prog (x : PL) (p : Option Addr) (c : Nat) (w : World) (hF : FormsAt w) (hL : IntsR w (.slice p x.list.length c) x.list) (hl : x.list.length ≤ 100000000000000) :
    Calls Tryz.prog 79 #[lineV x p x.list.length c] w (Is (.int .i64 (wrongL x)) w) := by
  by_cases hop : 0 ≤ x.op ∧ x.op ≤ 48
  case neg =>
    have HE := Lib.hid (show wrongL x = 170 by unfold wrongL; rw [if_pos (by omega)])
    obtain ⟨op, a, b, imm, nn, label, list⟩ := x
    simp only at hop
    have hop : op < 0 ∨ 48 < op := by omega
    clear hF hL hl
    unfold lineV
    rcases hop with h | h
    all_goals
      go_enter Tryz.func79, Tryz.ntmps79
      go_wp2
      go_ret
      exact ⟨Relax.ret_int HE.out.symm, below_one _ _⟩
  obtain ⟨h1, h2⟩ := hop
  obtain ⟨o, ho⟩ : ∃ o, operandsB x = o := ⟨_, rfl⟩
  obtain ⟨f, hf⟩ : ∃ o, labelFitsB x = o := ⟨_, rfl⟩
  obtain ⟨t, ht⟩ : ∃ o, listFitsB x = o := ⟨_, rfl⟩
  have HE := Lib.hid (show wrongL x = if o && f && t && (x.n == 0 || x.op == 2) then 0 else 171 by rw [wrongL_ok h1 h2, ho, hf, ht])
  have HO := Lib.hid (fun w hF => ho ▸ operandsFit_prog x p x.list.length c w hF)
  have HL := Lib.hid (fun w => hf ▸ labelFits_prog x p x.list.length c w)
  have HT := Lib.hid (fun w hL => ht ▸ listFits_prog x p c w hL hl)
  have HF := Lib.hid hF
  have HI := Lib.hid hL
  clear ho hf ht hF hL
  obtain ⟨op, a, b, imm, nn, label, list⟩ := x
  simp only at h1 h2 hl HE HO HL HT HI
  unfold lineV at HO HL HT ⊢
  simp only at HO HL HT ⊢
  have HB0 := Lib.hid (BoxL.start w 52 ⟨op, a, b, imm, nn, label, list⟩ (.slice p list.length c))
  generalize hn : list.length = n at *
  clear hn
  cases o
  · go_enter Tryz.func79, Tryz.ntmps79
    go_wp2_with (first
      | (go_at_call 112; refine (HO.out _ (HF.out.alloc _)).mono ?_; rintro e w2 ⟨rfl, hb⟩; have HB1 := Lib.hid (HB0.out.next hb); have HF2 := Lib.hid ((HF.out.alloc _).below hb); obtain ⟨_, z1, c0, c1, c2, c3, c4, c5, c6⟩ := HB1.out; clear hb))
    go_ret
    exact ⟨Relax.ret_int (by rw [HE.out]; simp [*]), HB1.out.b⟩
  cases f
  · go_enter Tryz.func79, Tryz.ntmps79
    go_wp2_with (first
      | (go_at_call 112; refine (HO.out _ (HF.out.alloc _)).mono ?_; rintro e w2 ⟨rfl, hb⟩; have HB1 := Lib.hid (HB0.out.next hb); have HF2 := Lib.hid ((HF.out.alloc _).below hb); obtain ⟨_, z1, c0, c1, c2, c3, c4, c5, c6⟩ := HB1.out; clear hb)
      | (go_at_call 113; refine (HL.out _).mono ?_; rintro e w3 ⟨rfl, hb⟩; have HB2 := Lib.hid (HB1.out.next hb); obtain ⟨_, z2, d0, d1, d2, d3, d4, d5, d6⟩ := HB2.out; clear hb))
    go_ret
    exact ⟨Relax.ret_int (by rw [HE.out]; simp [*]), HB2.out.b⟩
  cases t
  · go_enter Tryz.func79, Tryz.ntmps79
    go_wp2_with (first
      | (go_at_call 112; refine (HO.out _ (HF.out.alloc _)).mono ?_; rintro e w2 ⟨rfl, hb⟩; have HB1 := Lib.hid (HB0.out.next hb); have HF2 := Lib.hid ((HF.out.alloc _).below hb); obtain ⟨_, z1, c0, c1, c2, c3, c4, c5, c6⟩ := HB1.out; clear hb)
      | (go_at_call 113; refine (HL.out _).mono ?_; rintro e w3 ⟨rfl, hb⟩; have HB2 := Lib.hid (HB1.out.next hb); obtain ⟨_, z2, d0, d1, d2, d3, d4, d5, d6⟩ := HB2.out; clear hb)
      | (go_at_call 114; refine (HT.out _ (HI.out.below HB2.out.b)).mono ?_; rintro e w4 ⟨rfl, hb⟩; have HB3 := Lib.hid (HB2.out.next hb); obtain ⟨_, z3, e0, e1, e2, e3, e4, e5, e6⟩ := HB3.out; clear hb))
    go_ret
    exact ⟨Relax.ret_int (by rw [HE.out]; simp [*]), HB3.out.b⟩
  by_cases hn0 : nn = 0
  · subst hn0
    go_enter Tryz.func79, Tryz.ntmps79
    go_wp2_with (first
      | (go_at_call 112; refine (HO.out _ (HF.out.alloc _)).mono ?_; rintro e w2 ⟨rfl, hb⟩; have HB1 := Lib.hid (HB0.out.next hb); have HF2 := Lib.hid ((HF.out.alloc _).below hb); obtain ⟨_, z1, c0, c1, c2, c3, c4, c5, c6⟩ := HB1.out; clear hb)
      | (go_at_call 113; refine (HL.out _).mono ?_; rintro e w3 ⟨rfl, hb⟩; have HB2 := Lib.hid (HB1.out.next hb); obtain ⟨_, z2, d0, d1, d2, d3, d4, d5, d6⟩ := HB2.out; clear hb)
      | (go_at_call 114; refine (HT.out _ (HI.out.below HB2.out.b)).mono ?_; rintro e w4 ⟨rfl, hb⟩; have HB3 := Lib.hid (HB2.out.next hb); obtain ⟨_, z3, e0, e1, e2, e3, e4, e5, e6⟩ := HB3.out; clear hb))
    go_ret
    exact ⟨Relax.ret_int (by rw [HE.out]; simp [*]), HB3.out.b⟩
  have q1 : (nn == 0) = false := by simpa using hn0
  have q2 : (nn != 0) = true := by simpa using hn0
  have q3 : decide (nn = 0) = false := by simpa using hn0
  clear hn0
  by_cases ho2 : op = 2
  · subst ho2
    go_enter Tryz.func79, Tryz.ntmps79
    go_wp2_with (first
      | (go_at_call 112; refine (HO.out _ (HF.out.alloc _)).mono ?_; rintro e w2 ⟨rfl, hb⟩; have HB1 := Lib.hid (HB0.out.next hb); have HF2 := Lib.hid ((HF.out.alloc _).below hb); obtain ⟨_, z1, c0, c1, c2, c3, c4, c5, c6⟩ := HB1.out; clear hb)
      | (go_at_call 113; refine (HL.out _).mono ?_; rintro e w3 ⟨rfl, hb⟩; have HB2 := Lib.hid (HB1.out.next hb); obtain ⟨_, z2, d0, d1, d2, d3, d4, d5, d6⟩ := HB2.out; clear hb)
      | (go_at_call 114; refine (HT.out _ (HI.out.below HB2.out.b)).mono ?_; rintro e w4 ⟨rfl, hb⟩; have HB3 := Lib.hid (HB2.out.next hb); obtain ⟨_, z3, e0, e1, e2, e3, e4, e5, e6⟩ := HB3.out; clear hb))
    go_ret
    exact ⟨Relax.ret_int (by rw [HE.out]; simp [*]), HB3.out.b⟩
  have q4 : (op == 2) = false := by simpa using ho2
  have q5 : (op != 2) = true := by simpa using ho2
  clear ho2
  go_enter Tryz.func79, Tryz.ntmps79
  go_wp2_with (first
    | (go_at_call 112; refine (HO.out _ (HF.out.alloc _)).mono ?_; rintro e w2 ⟨rfl, hb⟩; have HB1 := Lib.hid (HB0.out.next hb); have HF2 := Lib.hid ((HF.out.alloc _).below hb); obtain ⟨_, z1, c0, c1, c2, c3, c4, c5, c6⟩ := HB1.out; clear hb)
    | (go_at_call 113; refine (HL.out _).mono ?_; rintro e w3 ⟨rfl, hb⟩; have HB2 := Lib.hid (HB1.out.next hb); obtain ⟨_, z2, d0, d1, d2, d3, d4, d5, d6⟩ := HB2.out; clear hb)
    | (go_at_call 114; refine (HT.out _ (HI.out.below HB2.out.b)).mono ?_; rintro e w4 ⟨rfl, hb⟩; have HB3 := Lib.hid (HB2.out.next hb); obtain ⟨_, z3, e0, e1, e2, e3, e4, e5, e6⟩ := HB3.out; clear hb))
  go_ret
  exact ⟨Relax.ret_int (by rw [HE.out]; simp [*]), HB3.out.b⟩
end Go.Proofs.YthojmbljlehpbaaGreatDoor.Relax
