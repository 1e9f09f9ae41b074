/- What is thrown is caught: the deferred closure. No condition. -/
import Derived.Test.YtjbiikbmbacjkaaDoorBo
import Derived.Recover
import Derived.Defers
import Derived.Laws.Pointers
namespace Go.Proofs.YtjbiikbmbacjkaaDoor.Emu
open Go.RowKit Go.Proofs.YtjbiikbmbacjkaaDoor.Enc Go.Proofs.YtjbiikbmbacjkaaDoor.Graph

section
variable {x : Fz} {E : Env} {wk : Nat → Value} {w w' w1 w2 : World} {m : M} {ad buf back : Value} {pg : Nat → Option Nat}
set_option maxHeartbeats 4000000 in
set_option maxRecDepth 100000 in
theorem trapOf_prog (n : Int) (w : World) : Calls Tryd.prog 36 #[.iface 118 (.int .u32 n)] w fun e w' => e = .returned (.int .u32 n) ∧ w' = w := by
  have hta : ∀ w : World, (Instr.typeAssert (.iface 118 (.int .u32 n)) 20 118 true).run Tryd.prog w = .ok (.tuple #[.int .u32 n, .bool true]) w := fun _ => by kernel_rfl
  go_enter Tryd.func36, Tryd.ntmps36
  go_wp2
  go_ret
  exact ⟨rfl, rfl⟩
set_option maxHeartbeats 4000000 in
set_option maxRecDepth 100000 in
theorem catch_panicking (h : St x E wk w w' m ad buf back pg) (pb : Nat) (hb : w'.cell? ⟨pb, 0, none⟩ = some (.pointer (some ⟨x.bm, 0, none⟩))) (n : Int) (older : List PanicEntry) :
    CallsD Tryd.prog 34 #[.pointer (some ⟨pb, 0, none⟩)] (.panicking ({ v := .iface 118 (.int .u32 n), recovered := false } :: older)) w' fun e u' w2 =>
      e = .returned (.tuple #[]) ∧ u' = .panicking ({ v := .iface 118 (.int .u32 n), recovered := true } :: older) ∧ St x E wk w w2 { m with stop := 2, code := n } ad buf back pg := by
  have HT := Lib.hid (fun w => trapOf_prog n w)
  have HA := Lib.hid (fun (W : World) (hW : St x E wk w W m ad buf back pg) => halt_prog hW 2 n)
  have HH := Lib.hid h
  clear h
  refine callsD_of_wpS Tryd.func34 rfl fun c₀ cs hu => ?_
  apply wpS_seq
  apply wpS_region
  simp [wpOpsS, go_sem, recoverD, hu, Tryd.ntmps34, Exit.thenS]
  refine wpS_of_wp ?_
  go_wp2
  change Code.wp _ _ _ { tmps := #[.pointer (some ⟨pb, 0, none⟩), .iface 118 (.int .u32 n), .iface 118 (.int .u32 n), .iface 118 (.int .u32 n), .bool true, undef, undef, undef, undef], defers := [] } _
  go_region_law (first
    | ((try go_simp); go_at_call 36; refine (HT.out _).mono ?_; rintro e w3 ⟨rfl, hw2⟩; have hw3 := hw2.symm; clear hw2; subst hw3)
    | ((try go_simp); go_at_call 35; refine (HA.out _ (by repeat' first | exact HH.out | apply St.alloc | apply St.drewN | apply St.drew)).mono ?_; rintro e w3 ⟨rfl, h3⟩; have H3 := Lib.hid h3; clear h3))
  all_goals exact ⟨rfl, _, rfl, _, results_none rfl _ _ _, rfl, rfl, H3.out⟩
end
end Go.Proofs.YtjbiikbmbacjkaaDoor.Emu
