/- How many words a line makes, and the other branch: the document's functions. No condition. -/
import Derived.Test.YtbbfjlheaaalkaaDoorQa
namespace Go.Proofs.YtbbfjlheaaalkaaDoor.Relax
open Go.RowKit Go.Proofs.YtbbfjlheaaalkaaDoor.Enc Go.Proofs.YtbbfjlheaaalkaaDoor.Graph
theorem ret_int {a b : Int} (h : a = b) : Ending.returned (.int .i64 a) = .returned (.int .i64 b) := by rw [h]
set_option maxHeartbeats 4000000 in
theorem size_any (x : PL) (p : Option Addr) (c : Nat) (long : Bool) (w : World) (hl : x.list.length ≤ 9223372036854775000) :
    Calls Tryd.prog 44 #[lineV x p x.list.length c, .bool long] w fun e w' => e = .returned (.int .i64 (sizeP x long)) ∧ Below w.heap.size w w' := by
  obtain ⟨op, a, b, imm, nn, label, list⟩ := x
  simp only at hl
  obtain ⟨n, hn⟩ : ∃ n, n = list.length := ⟨_, rfl⟩
  obtain ⟨br, hbr⟩ : ∃ br, branchOp op = br := ⟨_, rfl⟩
  have HB := Lib.hid (fun w => hbr ▸ branch16_any op w)
  have HE := Lib.hid hbr
  have HN := Lib.hid hn
  unfold lineV
  simp only
  rw [← hn] at hl ⊢
  clear hbr hn
  have i1 : (0 : Int) ≤ n := by omega
  have i2 : (n : Int) ≤ 9223372036854775000 := by omega
  cases br <;> cases long
  all_goals
    go_enter Tryd.func44, Tryd.ntmps44
    go_wp2_with (go_at_call 30; refine (HB.out _).mono ?_; rintro e w2 ⟨rfl, rfl⟩)
    all_goals go_ret
    all_goals refine ⟨ret_int ?_, below_one w _⟩
    all_goals (have hE := HE.out; have hN := HN.out; clear HE HN HB i1 i2 hl; unfold sizeP; first | (simp_all; done) | (simp_all [branchOp]; done) | (simp_all; omega))
set_option maxHeartbeats 4000000 in
theorem other_any (n : Int) (w : World) : Calls Tryd.prog 46 #[.int .i64 n] w fun e w' => e = .returned (.int .i64 (otherP n)) ∧ w' = w := by
  go_enter Tryd.func46, Tryd.ntmps46
  go_wp2
  all_goals go_ret
  all_goals refine ⟨ret_int ?_, rfl⟩
  all_goals (unfold otherP; simp_all)
end Go.Proofs.YtbbfjlheaaalkaaDoor.Relax
