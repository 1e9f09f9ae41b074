/- What every row of this seat gives a walk: the library's three variables hold values of their types; and a world for the witness. -/
import Derived.Test.YtmpahpnacpfhoaaDoorJ
import Derived.Test.YtmpahpnacpfhoaaDoorCards
import Derived.Test.YtmpahpnacpfhoaaDoorTie
import Derived.ProofKit
import Derived.OpenShut
import Derived.LaidMore
import Derived.Lay
import Derived.Stop.LaidErr
import Derived.SevenTiedAt
import Derived.Deep.DeepHandedRow
import Derived.Deep.DeepWitnessRowRef
namespace Go.Proofs.YtmpahpnacpfhoaaDoor
open Go.ChangeShapes Go.WideShapes Go.ChangeAt Go.RowKit

theorem own : ownKnob Tryd.prog.godebug = none := by kernel_rfl
/-- The list that every row of this seat bears. -/
def laidAll : List (String × DataW Unit) := Rows.lexCharsRow.laid

theorem gES : Tryd.prog.globalNamed "strconv.ErrSyntax" = some 1 := by kernel_rfl
theorem gEST : (Tryd.prog.globals[1]?).map (·.type) = some 63 := by kernel_rfl
theorem gER : Tryd.prog.globalNamed "strconv.ErrRange" = some 2 := by kernel_rfl
theorem gERT : (Tryd.prog.globals[2]?).map (·.type) = some 63 := by kernel_rfl
theorem cells83 : Tryd.prog.cellsOf 83 = 1 := by kernel_rfl
theorem cells9 : Tryd.prog.cellsOf 9 = 1 := by kernel_rfl
/-- The name of the type that a sentinel points to, as the list spells it. -/
def sentName : String := match (Rows.laid_strconv_ErrRange : DataW Unit) with | .iface n _ => n | _ => ""
theorem row81 (u : TypeId) (h : Tryd.prog.typeName? 3 u = some sentName) : u = 81 :=
  typeName_ptr_named (nm := "errors.errorString") (by kernel_rfl) (by kernel_rfl) (by decide) u (h.trans (by decide))

theorem rdy_of {W : World} (hL0 : laidMetH Tryd.prog laidAll W) (hsh : W.ShapedOpen Tryd.prog) : Rdy W := by
  rw [MakeChecks.laidMetH_plain _ _ _ (by kernel_rfl)] at hL0
  have hL := hL0.tail.tail.tail
  obtain ⟨m, hm⟩ : ∃ m, W.cell? ⟨0, 0, none⟩ = some (.int .i64 m) := Tryd.laysM143.s1_3 W hsh
  obtain ⟨a0, s0, hv0, _, _, _⟩ := laid_sentinel hL gER gERT Tryd.underlying63 row81 Tryd.underlying81 Tryd.underlying83 rfl rfl Tryd.underlying9 cells83 cells9
  obtain ⟨a1, s1, hv1, _, _, _⟩ := laid_sentinel hL.tail gES gEST Tryd.underlying63 row81 Tryd.underlying81 Tryd.underlying83 rfl rfl Tryd.underlying9 cells83 cells9
  have h2 : W.cell? ⟨2, 0, none⟩ = some (.iface 81 (.pointer (some a0))) := by have h0 := World.var?_cell gER hv0 0; simpa using h0
  have h1 : W.cell? ⟨1, 0, none⟩ = some (.iface 81 (.pointer (some a1))) := by have h0 := World.var?_cell gES hv1 0; simpa using h0
  exact ⟨World.block_lt_of_cell? _ _ h2, ⟨m, hm⟩, ⟨_, h1, .inr ⟨_, _, rfl⟩⟩, ⟨_, h2, .inr ⟨_, _, rfl⟩⟩⟩

/-- A world for the witness. -/
noncomputable def laidWorld (os : Os) : World := World.laidAll Tryd.prog os laidAll
theorem laid_met (os : Os) (args : Array Value) : laidMetH Tryd.prog laidAll ((laidWorld os).forCall (fun _ _ => 0) ⟨#[], args, []⟩).memory := by
  rw [MakeChecks.laidMetH_plain _ _ _ (by kernel_rfl)]
  exact laidMet_laidAll _ (by kernel_rfl) (by kernel_rfl)
end Go.Proofs.YtmpahpnacpfhoaaDoor
