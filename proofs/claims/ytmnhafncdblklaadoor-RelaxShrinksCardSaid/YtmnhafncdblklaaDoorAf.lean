/- What may be wrong with a line: the program's own answer; the labels that it goes to; whether a label stands. No condition but that lists and maps lie as they say. -/
import Derived.Test.YtmnhafncdblklaaDoorAe
import Derived.Maps.OwnOps
namespace Go.Proofs.YtmnhafncdblklaaDoor.Relax
open Go.RowKit Go.Proofs.YtmnhafncdblklaaDoor.Enc Go.Proofs.YtmnhafncdblklaaDoor.Graph Go.Maps

set_option maxHeartbeats 2000000 in
theorem operandsFit_prog (x : PL) (p : Option Addr) (n c : Nat) (w : World) (hF : FormsAt w) : Calls Tryd.prog 59 #[lineV x p n c] w fun e w' => e = .returned (.bool (operandsB x)) ∧ Below w.heap.size w w' := by
  obtain ⟨br, hbr⟩ : ∃ br, brB x.op = br := ⟨_, rfl⟩
  obtain ⟨wd, hwd⟩ : ∃ wd, encP (codeOf x) = wd := ⟨_, rfl⟩
  obtain ⟨wd, er⟩ := wd
  have HB := Lib.hid (fun w => hbr ▸ branches_prog x.op w)
  have HC := Lib.hid (fun w => codeOf_prog x p n c w)
  have HN := Lib.hid (fun (w : World) (hF : FormsAt w) => (enc_any (codeOf x) w hF).mono fun e w' (h : EncPost (codeOf x) w e w') => (⟨by rw [h.1, hwd], h.2⟩ : e = .returned (.tuple #[.int .u32 wd, .int .i64 er]) ∧ Below w.heap.size w w'))
  have HG := Lib.hid (show operandsB x = if x.op = 0 then x.a == 0 && x.b == 0 && x.imm == 0 else er == 0 && (x.imm == 0 || !br) by unfold operandsB; rw [hwd, hbr])
  have hF' := Lib.hid hF
  clear hbr hwd hF
  obtain ⟨op, a, b, imm, nn, label, list⟩ := x
  unfold lineV codeOf cV at *
  simp only at HB HC HN HG
  by_cases h0 : op = 0
  · subst h0
    go_enter Tryd.func59, Tryd.ntmps59
    go_wp2
    all_goals go_ret
    all_goals refine ⟨Relax.ret_bool ?_, below_one _ _⟩
    all_goals (clear HG HB HC HN hF'; simp_all [operandsB])
  · have e1 : (op == 0) = false := by simpa using h0
    have HG2 := Lib.hid (show operandsB ⟨op, a, b, imm, nn, label, list⟩ = (er == 0 && (imm == 0 || !br)) by rw [HG.out, if_neg h0])
    clear HG h0
    go_enter Tryd.func59, Tryd.ntmps59
    cases br
    all_goals
      go_wp2_with (first
        | (go_at_call 51; refine (HC.out _).mono ?_; rintro e w2 ⟨rfl, hb2⟩; have c0 := hb2.cell (p := ⟨w.heap.size, 0, none⟩) (by simp); have c3 := hb2.cell (p := ⟨w.heap.size, 3, none⟩) (by simp); have hz2 : w.heap.size < w2.heap.size := (by have := hb2.size; simp at this; omega); have hF2 := Lib.hid (hF'.out.below (bt (below_one w _) hb2)); have H2 := Lib.hid hb2; clear hb2)
        | (go_at_call 66; refine (HN.out _ hF2.out).mono ?_; rintro e w3 ⟨rfl, hb3⟩; have d0 := (hb3.cell (p := ⟨w.heap.size, 0, none⟩) (by simp <;> omega)); have d3 := (hb3.cell (p := ⟨w.heap.size, 3, none⟩) (by simp <;> omega)); have H3 := Lib.hid hb3; clear hb3)
        | (go_at_call 47; refine (HB.out _).mono ?_; rintro e w4 ⟨rfl, rfl⟩))
      all_goals go_ret
      all_goals refine ⟨Relax.ret_bool ?_, bt (below_one w _) (bt H2.out H3.out)⟩
      all_goals (have hg := HG2.out; clear HG2 HB HC HN hF' hF2 H2 H3; simp_all)
set_option maxHeartbeats 2000000 in
theorem stands_prog (b n : Nat) (l : List PL) (i : Nat) (lab : Int) (hl : 0 ≤ lab ∧ lab ≤ 100000) (w : World) (hM : MapAt w b n l i) :
    Calls Tryd.prog 45 #[.map (some b), .int .i64 lab] w fun e w' => e = .returned (.bool (standsAt l lab i).isSome) ∧ Below w.heap.size w w' := by
  have HM := Lib.hid hM
  have HK := Lib.hid (key_of hl)
  have HH := Lib.hid (mapD_has l lab i)
  clear hM
  go_enter Tryd.func45, Tryd.ntmps45
  go_wp2_with (at_lookup; refine wpList_lookup_own_ok_int _ rfl _ _ 59 rfl 3 3 .i64 law Tryd.underlying59 Tryd.underlying3 (zeroE _) b n (mapD l i) rfl (by first | exact HM.out | exact HM.out.alloc _) _ _ rfl HK.out ?_; intro c hat hwc)
  go_ret
  exact ⟨Relax.ret_bool HH.out, by first | exact Below.refl _ _ | exact below_one _ _⟩
end Go.Proofs.YtmnhafncdblklaaDoor.Relax
