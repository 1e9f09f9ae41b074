/- The forms of instructions, plainly: what each form's fields may be, and that this is which instructions may be. No condition. -/
import Derived.Test.YthojmbljlehpbaaGreatDoorG06
import Derived.Laws.BitsAllLaws
import Derived.Deep.RegionHeld3
import Derived.Deep.DeepCutAuto
namespace Go.Proofs.YthojmbljlehpbaaGreatDoor.Enc
open Go.RowKit

def formAt (k : Nat) : Int := formL.getD k 0
/-- The form of an Op. -/
def formP (op : Int) : Int := formAt op.toNat
structure PF where
  a : Int
  b : Int
  lo : Int
  hi : Int
deriving DecidableEq
def fieldsP (f : Int) : PF :=
  if f = 0 then ⟨11, 0, -32768, 32767⟩
  else if f = 1 then ⟨11, 0, 0, 0⟩
  else if f = 2 then ⟨11, 11, 0, 0⟩
  else if f = 3 then ⟨11, 11, -32768, 32767⟩
  else if f = 4 then ⟨11, 11, 0, 11⟩
  else if f = 5 then ⟨11, 11, -128, 127⟩
  else if f = 6 then ⟨0, 0, -128, 127⟩
  else if f = 8 then ⟨0, 0, 0, 255⟩
  else ⟨0, 0, 0, 0⟩
def holdP (f : PF) (c : PC) : Bool := decide (0 ≤ c.a ∧ c.a ≤ f.a ∧ 0 ≤ c.b ∧ c.b ≤ f.b ∧ f.lo ≤ c.imm ∧ c.imm ≤ f.hi)
theorem form_class (op : Int) (h1 : 1 ≤ op) (h2 : op ≤ 48) : formP op =
    (if op = 1 then 0
    else if op = 2 ∨ op = 42 ∨ op = 45 ∨ op = 46 ∨ op = 47 then 1
    else if op = 3 ∨ op = 24 ∨ op = 25 ∨ op = 26 ∨ op = 29 then 2
    else if op = 4 ∨ op = 27 ∨ op = 28 then 3
    else if 5 ≤ op ∧ op ≤ 23 then 4
    else if 30 ≤ op ∧ op ≤ 39 then 5
    else if op = 40 then 6
    else if op = 41 ∨ op = 43 ∨ op = 44 then 7
    else 8) := by
  have h : ∀ k : Nat, k < 49 → 1 ≤ k → formP (k : Int) =
    (if (k : Int) = 1 then 0
    else if (k : Int) = 2 ∨ (k : Int) = 42 ∨ (k : Int) = 45 ∨ (k : Int) = 46 ∨ (k : Int) = 47 then 1
    else if (k : Int) = 3 ∨ (k : Int) = 24 ∨ (k : Int) = 25 ∨ (k : Int) = 26 ∨ (k : Int) = 29 then 2
    else if (k : Int) = 4 ∨ (k : Int) = 27 ∨ (k : Int) = 28 then 3
    else if 5 ≤ (k : Int) ∧ (k : Int) ≤ 23 then 4
    else if 30 ≤ (k : Int) ∧ (k : Int) ≤ 39 then 5
    else if (k : Int) = 40 then 6
    else if (k : Int) = 41 ∨ (k : Int) = 43 ∨ (k : Int) = 44 then 7
    else 8) := by decide
  have := h op.toNat (by omega) (by omega)
  rwa [show ((op.toNat : Nat) : Int) = op by omega] at this
theorem may_hold {c : PC} (h1 : 1 ≤ c.op) (h2 : c.op ≤ 48) : mayP c = holdP (fieldsP (formP c.op)) c := by
  rw [form_class _ h1 h2]
  obtain ⟨op, a, b, i⟩ := c
  simp only at h1 h2 ⊢
  unfold mayP reg zero wide near trapN holdP
  simp only
  split
  · rw [Bool.eq_iff_iff]; simp [fieldsP]; omega
  split
  · rw [Bool.eq_iff_iff]; simp [fieldsP]; omega
  split
  · rw [Bool.eq_iff_iff]; simp [fieldsP]; omega
  split
  · rw [Bool.eq_iff_iff]; simp [fieldsP]; omega
  split
  · rw [Bool.eq_iff_iff]; simp [fieldsP]; omega
  split
  · rw [Bool.eq_iff_iff]; simp [fieldsP]; omega
  split
  · rw [Bool.eq_iff_iff]; simp [fieldsP]; omega
  split
  · rw [Bool.eq_iff_iff]; simp [fieldsP]; omega
  split
  · rw [Bool.eq_iff_iff]; simp [fieldsP]; omega
  · omega
/-- Why an instruction may not be. -/
def wrongP (c : PC) : Int := if isOp c.op then (if mayP c then 0 else 161) else 160
theorem form_range (op : Int) (h1 : 1 ≤ op) (h2 : op ≤ 48) : 0 ≤ formP op ∧ formP op ≤ 8 := by
  rw [form_class op h1 h2]
  repeat' split
  all_goals omega
def fV (f : PF) : Value := .agg #[.int .i64 f.a, .int .i64 f.b, .int .i64 f.lo, .int .i64 f.hi]
theorem form_cells (k : Nat) (h : k < 49) : formCells[k]? = some (.int .i64 (formAt k)) := by
  have : ∀ k : Nat, k < 49 → formL[k]? = some (formAt k) := by decide
  unfold formCells
  rw [List.getElem?_toArray, List.getElem?_map, this k h]; rfl
theorem FormsAt.cell {w : World} (h : FormsAt w) {op : Int} (h1 : 0 ≤ op) (h2 : op < 49) : w.cell? ⟨1, op.toNat, none⟩ = some (.int .i64 (formP op)) := by
  obtain ⟨t, fr, h⟩ := h
  simp [World.cell?, h, form_cells op.toNat (by omega), formP]

set_option maxHeartbeats 4000000 in
theorem hold_any (f : PF) (c : PC) (w : World) : Calls Tryz.prog 128 #[fV f, cV c] w fun e w' => e = .returned (.bool (holdP f c)) ∧ Below w.heap.size w w' := by
  obtain ⟨p, q, r, s⟩ := f
  obtain ⟨op, a, b, i⟩ := c
  unfold fV cV
  go_enter Tryz.func128, Tryz.ntmps128
  go_wp2
  all_goals go_ret
  all_goals refine ⟨ret_bool ?_, (below_one _ _).alloc (by simp) _⟩
  all_goals (rw [Bool.eq_iff_iff]; simp_all [holdP] <;> omega)
set_option maxHeartbeats 4000000 in
theorem fieldsOf_any (n : Int) (hn : 0 ≤ n ∧ n ≤ 8) (w : World) : Calls Tryz.prog 127 #[.int .i64 n] w fun e w' => e = .returned (fV (fieldsP n)) ∧ Below w.heap.size w w' := by
  have h : n = 0 ∨ n = 1 ∨ n = 2 ∨ n = 3 ∨ n = 4 ∨ n = 5 ∨ n = 6 ∨ n = 7 ∨ n = 8 := by omega
  clear hn
  rcases h with rfl | rfl | rfl | rfl | rfl | rfl | rfl | rfl | rfl
  all_goals
    go_enter Tryz.func127, Tryz.ntmps127
    go_wp2
    refine bodyPost_ret (v := fV (fieldsP _)) ?_ rfl ⟨rfl, (below_one _ _).alloc (by simp) _⟩
    simp [results, Tryz.results127, go_sem, fV, fieldsP]
end Go.Proofs.YthojmbljlehpbaaGreatDoor.Enc
namespace Go.Proofs.YthojmbljlehpbaaGreatDoor.Enc
open Go.RowKit

theorem encP_no {c : PC} (h : isOp c.op = false) : encP c = (0, 160) := by unfold encP; rw [h]; rfl
theorem encP_not {c : PC} (h : isOp c.op = true) (h2 : mayP c = false) : encP c = (0, 161) := by unfold encP; rw [h, h2]; rfl
theorem encP_yes {c : PC} (h2 : mayP c = true) : encP c = (wordP c, 0) := by unfold encP; rw [isOp_of (within h2), h2]; rfl
theorem decP_no {x : Int} (h : isOp (x / 16777216) = false) : decP x = (noC, 160) := by simp [decP, cutP, h]
theorem decP_yes {x : Int} (h : isOp (x / 16777216) = true) (h2 : mayP (cutP x) = true) : decP x = (cutP x, 0) := by
  simp only [cutP] at h2; simp [decP, cutP, h, h2]
theorem decP_neg {x : Int} (h : isOp (x / 16777216) = true) (h2 : mayP (cutP x) = false) (h3 : 32768 ≤ x % 65536) (h4 : mayP ⟨x / 16777216, x / 1048576 % 16, x / 65536 % 16, x % 65536 - 65536⟩ = true) :
    decP x = (⟨x / 16777216, x / 1048576 % 16, x / 65536 % 16, x % 65536 - 65536⟩, 0) := by
  simp only [cutP] at h2; simp [decP, cutP, h, h2, h3, h4]
theorem decP_not {x : Int} (h : isOp (x / 16777216) = true) (h2 : mayP (cutP x) = false) (h3 : 32768 ≤ x % 65536) (h4 : mayP ⟨x / 16777216, x / 1048576 % 16, x / 65536 % 16, x % 65536 - 65536⟩ = false) : decP x = (noC, 161) := by
  simp only [cutP] at h2; simp [decP, cutP, h, h2, h3, h4]
theorem decP_not2 {x : Int} (h : isOp (x / 16777216) = true) (h2 : mayP (cutP x) = false) (h3 : x % 65536 < 32768) : decP x = (noC, 161) := by
  simp only [cutP] at h2; simp [decP, cutP, h, h2, show ¬ 32768 ≤ x % 65536 by omega]
theorem cell_of_block {w : World} {b : Nat} {cs : Array Value} {t : TypeId} (h : w.heap[b]? = some (.cells cs t (0, 0))) {k : Nat} {v : Value} (hk : cs[k]? = some v) : w.cell? ⟨b, k, none⟩ = some v ∧ w.frozen? ⟨b, k, none⟩ = false := by
  constructor <;> simp [World.cell?, World.frozen?, h, hk]
theorem grown_step {w w3 : World} {g k : Nat} {v : Value} (h : w.grownBy w3 (some g)) : w.grownBy (w3.setCell ⟨g, k, none⟩ v) (some g) :=
  ⟨h.os, h.tape, h.output, by simpa [World.setCell] using h.size, fun i hi hn => (Below.heap_setCell _ _ _ _ (by simpa using (fun e => hn (by rw [e])))).trans (h.block i hi hn)⟩
theorem set_row4 {r : Nat} {t : TypeId} {w : World} {z0 z1 z2 z3 : Value} (v0 v1 v2 v3 : Value) (h : w.heap[r]? = some (.cells #[z0, z1, z2, z3] t (0, 0))) :
    w.grownBy ((((w.setCell ⟨r, 0, none⟩ v0).setCell ⟨r, 1, none⟩ v1).setCell ⟨r, 2, none⟩ v2).setCell ⟨r, 3, none⟩ v3) (some r) ∧
    ((((w.setCell ⟨r, 0, none⟩ v0).setCell ⟨r, 1, none⟩ v1).setCell ⟨r, 2, none⟩ v2).setCell ⟨r, 3, none⟩ v3).heap[r]? = some (.cells #[v0, v1, v2, v3] t (0, 0)) := by
  refine ⟨grown_step (grown_step (grown_step (grown_step (World.grownBy.refl w (some r))))), ?_⟩
  exact heap_setCell_same _ r 3 _ t v3 (heap_setCell_same _ r 2 _ t v2 (heap_setCell_same _ r 1 _ t v1 (heap_setCell_same _ r 0 _ t v0 h)))
theorem second_new (w : World) (a b : Obj) : ((w.alloc a).alloc b).heap[w.heap.size + 1]? = some b := by
  have := heap_alloc_new (w.alloc a) b
  rwa [World.size_alloc] at this
theorem four {w : World} {b : Nat} {t : TypeId} {z0 z1 z2 z3 : Value} (h : w.heap[b]? = some (.cells #[z0, z1, z2, z3] t (0, 0))) :
    (w.cell? ⟨b, 0, none⟩ = some z0 ∧ w.cell? ⟨b, 1, none⟩ = some z1 ∧ w.cell? ⟨b, 2, none⟩ = some z2 ∧ w.cell? ⟨b, 3, none⟩ = some z3) ∧
    w.frozen? ⟨b, 0, none⟩ = false ∧ w.frozen? ⟨b, 1, none⟩ = false ∧ w.frozen? ⟨b, 2, none⟩ = false ∧ w.frozen? ⟨b, 3, none⟩ = false :=
  ⟨⟨(cell_of_block h rfl).1, (cell_of_block h rfl).1, (cell_of_block h rfl).1, (cell_of_block h rfl).1⟩, (cell_of_block h (k := 0) rfl).2, (cell_of_block h (k := 1) rfl).2, (cell_of_block h (k := 2) rfl).2, (cell_of_block h (k := 3) rfl).2⟩
end Go.Proofs.YthojmbljlehpbaaGreatDoor.Enc
namespace Go.Proofs.YthojmbljlehpbaaGreatDoor.Enc
open Go.RowKit
theorem wrong_no {c : PC} (h : isOp c.op = false) : wrongP c = 160 := by unfold wrongP; rw [h]; rfl
theorem wrong_bad {c : PC} (h : isOp c.op = true) (h2 : mayP c = false) : wrongP c = 161 := by unfold wrongP; rw [h, h2]; rfl
theorem wrong_ok {c : PC} (h : isOp c.op = true) (h2 : mayP c = true) : wrongP c = 0 := by unfold wrongP; rw [h, h2]; rfl
def WrongPost (c : PC) (w : World) (e : Ending) (w' : World) : Prop := e = .returned (.int .i64 (wrongP c)) ∧ Below w.heap.size w w'
theorem WrongPost.mk {c : PC} {w w' : World} {n : Int} (h : wrongP c = n) (hb : Below w.heap.size w w') : WrongPost c w (.returned (.int .i64 n)) w' := by
  unfold WrongPost; rw [h]; exact ⟨rfl, hb⟩
set_option maxHeartbeats 4000000 in
theorem wrong_any (c : PC) (w : World) (hF : FormsAt w) : Calls Tryz.prog 106 #[cV c] w (WrongPost c w) := by
  by_cases ho : isOp c.op = true
  case neg =>
    have ho2 : isOp c.op = false := by simpa using ho
    have HE := Lib.hid (wrong_no ho2)
    have h : c.op < 1 ∨ 48 < c.op := by simp [isOp] at ho2; omega
    clear ho ho2 hF
    obtain ⟨op, a, b, i⟩ := c
    simp only at h
    unfold cV
    rcases h with h | h
    all_goals
      go_enter Tryz.func106, Tryz.ntmps106
      go_wp2
      go_ret
      exact WrongPost.mk HE.out (below_one _ _)
  have h : 1 ≤ c.op ∧ c.op ≤ 48 := by simpa [isOp] using ho
  have hm := may_hold h.1 h.2
  have HC := Lib.hid (hF.cell (by omega : 0 ≤ c.op) (by omega))
  have hr := form_range c.op h.1 h.2
  have hp := hF.pos
  have HFD := Lib.hid (fun w => fieldsOf_any (formP c.op) hr w)
  have HHD := Lib.hid (fun w => hold_any (fieldsP (formP c.op)) c w)
  clear hF hr
  rw [← hm] at HHD
  clear hm
  have HW := Lib.hid (fun h2 => wrong_bad ho (c := c) h2)
  have HV := Lib.hid (fun h2 => wrong_ok ho (c := c) h2)
  clear ho
  obtain ⟨op, a, b, i⟩ := c
  simp only at h HC HFD HHD
  obtain ⟨h1, h2⟩ := h
  unfold cV at HHD ⊢
  generalize hq : mayP ⟨op, a, b, i⟩ = q at HHD HW HV
  clear hq
  obtain ⟨k, rfl⟩ : ∃ k : Nat, op = (k : Int) := ⟨op.toNat, by omega⟩
  have hk : k < 49 := by omega
  have i0 : (0 : Int) ≤ k := by omega
  have i1 : (k : Int) < 49 := by omega
  rw [Int.toNat_natCast] at HC
  go_enter Tryz.func106, Tryz.ntmps106
  go_wp2
  have hc := HC.out
  go_region_held3 (fun w' => w'.cell? ⟨w.heap.size, 0, none⟩ = some (.int .i64 (k : Int)) ∧ w'.cell? ⟨w.heap.size, 1, none⟩ = some (.int .i64 a) ∧ w'.cell? ⟨w.heap.size, 2, none⟩ = some (.int .i64 b) ∧ w'.cell? ⟨w.heap.size, 3, none⟩ = some (.int .i64 i) ∧ w'.cell? ⟨1, k, none⟩ = some (.int .i64 (formP (k : Int)))) (go_keep)
    (first
      | (go_at_call 127; refine (HFD.out _).mono ?_; rintro e w2 ⟨rfl, hb2⟩; have H2 := Lib.hid hb2; have c0 := hb2.cell (p := ⟨w.heap.size, 0, none⟩) (by simp); have c1 := hb2.cell (p := ⟨w.heap.size, 1, none⟩) (by simp); have c2 := hb2.cell (p := ⟨w.heap.size, 2, none⟩) (by simp); have c3 := hb2.cell (p := ⟨w.heap.size, 3, none⟩) (by simp); have c4 := hb2.cell (p := ⟨1, k, none⟩) (by simp <;> omega); have hz2 : w.heap.size < w2.heap.size := (by have := hb2.size; simp at this; omega); have hy2 : 1 < w2.heap.size := (by omega); clear hb2)
      | (go_at_call 128; refine (HHD.out _).mono ?_; rintro e w3 ⟨rfl, hb3⟩; have H3 := Lib.hid hb3; have d0 := hb3.cell (p := ⟨w.heap.size, 0, none⟩) hz2; have d1 := hb3.cell (p := ⟨w.heap.size, 1, none⟩) hz2; have d2 := hb3.cell (p := ⟨w.heap.size, 2, none⟩) hz2; have d3 := hb3.cell (p := ⟨w.heap.size, 3, none⟩) hz2; have d4 := hb3.cell (p := ⟨1, k, none⟩) hy2; clear hb3))
  cases q with
  | false =>
    go_wp2
    go_ret
    exact WrongPost.mk (by first | exact HW.out rfl | exact HW.out trivial) (bt ((below_one w _).drew) (bt H2.out H3.out))
  | true =>
    go_wp2
    go_ret
    exact WrongPost.mk (by first | exact HV.out rfl | exact HV.out trivial) (bt ((below_one w _).drew) (bt H2.out H3.out))
theorem wrong_at {c : PC} {n : Int} (h : wrongP c = n) (w : World) (hF : FormsAt w) : Calls Tryz.prog 106 #[cV c] w fun e w' => e = .returned (.int .i64 n) ∧ Below w.heap.size w w' :=
  (wrong_any c w hF).mono fun e w' ⟨h1, h2⟩ => ⟨by rw [h1, h], h2⟩
theorem or_word {a b : Int} {k : Nat} (ha : 0 ≤ a) (hb : 0 ≤ b) (hk : b < (2 ^ k : Nat)) (hs : a * (2 ^ k : Nat) + b < 4294967296) : bits .or .u32 (a * (2 ^ k : Nat)) b = a * (2 ^ k : Nat) + b := by
  obtain ⟨m, rfl⟩ := Int.eq_ofNat_of_zero_le ha
  obtain ⟨n, rfl⟩ := Int.eq_ofNat_of_zero_le hb
  have h1 : n < 2 ^ k := by exact_mod_cast hk
  have h2 : m * 2 ^ k + n < 4294967296 := by
    rw [← Int.natCast_mul, ← Int.natCast_add] at hs
    omega
  have e := Nat.shiftLeft_add_eq_or_of_lt h1 m
  rw [Nat.shiftLeft_eq] at e
  rw [← Int.natCast_mul, u32_or_nat _ _ (by omega) (by omega), ← e, Int.natCast_add]
theorem word_or {o a b i : Int} (h1 : 0 ≤ o) (h2 : o ≤ 48) (h3 : 0 ≤ a) (h4 : a ≤ 15) (h5 : 0 ≤ b) (h6 : b ≤ 15) (h7 : 0 ≤ i) (h8 : i ≤ 65535) :
    bits .or .u32 (bits .or .u32 (bits .or .u32 (o * 16777216) (a * 1048576)) (b * 65536)) i = o * 16777216 + a * 1048576 + b * 65536 + i := by
  have e1 := or_word (a := o) (b := a * 1048576) (k := 24) h1 (by omega) (by simp; omega) (by simp; omega)
  simp only [show (2 ^ 24 : Nat) = 16777216 from rfl] at e1
  have e2 := or_word (a := o * 16 + a) (b := b * 65536) (k := 20) (by omega) (by omega) (by simp; omega) (by simp; omega)
  simp only [show (2 ^ 20 : Nat) = 1048576 from rfl] at e2
  have e3 := or_word (a := o * 256 + a * 16 + b) (b := i) (k := 16) (by omega) (by omega) (by simp; omega) (by simp; omega)
  simp only [show (2 ^ 16 : Nat) = 65536 from rfl] at e3
  rw [show (o : Int) * 16777216 = o * (16777216 : Nat) from rfl, e1, show o * ((16777216 : Nat) : Int) + a * 1048576 = (o * 16 + a) * (1048576 : Nat) by omega, e2,
    show (o * 16 + a) * ((1048576 : Nat) : Int) + b * 65536 = (o * 256 + a * 16 + b) * (65536 : Nat) by omega, e3]
  first | done | omega
theorem low_up {i : Int} (h7 : -32768 ≤ i) (h8 : i ≤ 32767) : IntKind.u16.wrap i % 4294967296 = up i := by
  rw [IntKind.wrap_u16]; unfold up; split <;> omega
set_option maxHeartbeats 4000000 in
theorem enc_any (c : PC) (w : World) (hF : FormsAt w) : Calls Tryz.prog 119 #[cV c] w (EncPost c w) := by
  have HF := Lib.hid hF
  clear hF
  by_cases ho : isOp c.op = true
  case neg =>
    have ho2 : isOp c.op = false := by simpa using ho
    have HE := Lib.hid (encP_no ho2)
    have HW := Lib.hid (wrong_at (wrong_no ho2))
    clear ho ho2
    obtain ⟨op, a, b, i⟩ := c
    unfold cV at HW ⊢
    go_enter Tryz.func119, Tryz.ntmps119
    go_wp2_with (go_at_call 106; refine (HW.out _ (HF.out.alloc _)).mono ?_; rintro e w2 ⟨rfl, hb⟩)
    go_ret2
    exact EncPost.mk HE.out (bt (below_one _ _) hb)
  by_cases hm : mayP c = true
  case neg =>
    have hm2 : mayP c = false := by simpa using hm
    have HE := Lib.hid (encP_not ho hm2)
    have HW := Lib.hid (wrong_at (wrong_bad ho hm2))
    clear ho hm hm2
    obtain ⟨op, a, b, i⟩ := c
    unfold cV at HW ⊢
    go_enter Tryz.func119, Tryz.ntmps119
    go_wp2_with (go_at_call 106; refine (HW.out _ (HF.out.alloc _)).mono ?_; rintro e w2 ⟨rfl, hb⟩)
    go_ret2
    exact EncPost.mk HE.out (bt (below_one _ _) hb)
  have HE := Lib.hid (encP_yes hm)
  have HW := Lib.hid (wrong_at (wrong_ok ho hm))
  have hw := within hm
  clear ho hm
  obtain ⟨op, a, b, i⟩ := c
  obtain ⟨⟨h1, h2⟩, ⟨h3, h4⟩, ⟨h5, h6⟩, ⟨h7, h8⟩⟩ := hw
  simp only at h1 h2 h3 h4 h5 h6 h7 h8
  unfold cV at HW ⊢
  go_enter Tryz.func119, Tryz.ntmps119
  go_wp2_with (go_at_call 106; refine (HW.out _ (HF.out.alloc _)).mono ?_; rintro e w2 ⟨rfl, hb⟩; have H2 := Lib.hid hb; have c0 := hb.cell (p := ⟨w.heap.size, 0, none⟩) (by simp); have c1 := hb.cell (p := ⟨w.heap.size, 1, none⟩) (by simp); have c2 := hb.cell (p := ⟨w.heap.size, 2, none⟩) (by simp); have c3 := hb.cell (p := ⟨w.heap.size, 3, none⟩) (by simp); clear hb)
  go_ret2
  refine EncPost.mk ?_ (bt (below_one _ _) H2.out)
  rw [HE.out]
  have hu := up_range (n := i) ⟨h7, h8⟩
  have e := word_or (o := op) (a := a) (b := b) (i := up i) (by omega) h2 h3 (by omega) h5 (by omega) hu.1 hu.2
  rw [← low_up h7 h8] at e
  refine Prod.ext (Eq.trans ?_ e.symm) rfl
  rw [low_up h7 h8]
  rfl
theorem and15 {x : Int} (h : 0 ≤ x) (h2 : x < 4294967296) : bits .and .u32 x 15 = x % 16 := by
  obtain ⟨m, rfl⟩ := Int.eq_ofNat_of_zero_le h
  have := u32_and_nat m 15 (by omega) (by omega)
  rw [show ((15 : Nat) : Int) = 15 from rfl] at this
  rw [this, show 15 = 2 ^ 4 - 1 from rfl, Nat.and_two_pow_sub_one_eq_mod]
  rfl
/-- The number that a field's 16 bits are, read signed. -/
def sgn (x : Int) : Int := if 32768 ≤ x % 65536 then x % 65536 - 65536 else x % 65536
theorem low_sgn {x : Int} : IntKind.i16.wrap x = sgn x := by
  unfold sgn
  simp [IntKind.wrap, IntKind.bits, IntKind.signed]
theorem sgn_range (x : Int) : -32768 ≤ sgn x ∧ sgn x ≤ 32767 := by unfold sgn; split <;> omega
theorem dec_wrong (x : Int) : decP x = if wrongP ⟨x / 16777216, x / 1048576 % 16, x / 65536 % 16, sgn x⟩ = 0 then (⟨x / 16777216, x / 1048576 % 16, x / 65536 % 16, sgn x⟩, 0) else (noC, wrongP ⟨x / 16777216, x / 1048576 % 16, x / 65536 % 16, sgn x⟩) := by
  by_cases ho : isOp (x / 16777216) = true
  case neg =>
    have ho : isOp (x / 16777216) = false := by simpa using ho
    rw [decP_no ho, wrong_no ho]; rfl
  by_cases h3 : 32768 ≤ x % 65536
  · have e : sgn x = x % 65536 - 65536 := by unfold sgn; rw [if_pos h3]
    have hn : mayP (cutP x) = false := not_may (c := cutP x) h3
    rw [e]
    cases hd : mayP ⟨x / 16777216, x / 1048576 % 16, x / 65536 % 16, x % 65536 - 65536⟩ with
    | true => rw [decP_neg ho hn h3 hd, wrong_ok ho hd]; rfl
    | false => rw [decP_not ho hn h3 hd, wrong_bad ho hd]; rfl
  · have e : sgn x = x % 65536 := by unfold sgn; rw [if_neg h3]
    rw [e]
    cases hd : mayP ⟨x / 16777216, x / 1048576 % 16, x / 65536 % 16, x % 65536⟩ with
    | true => rw [decP_yes ho hd, wrong_ok ho hd]; rfl
    | false => rw [decP_not2 ho hd (by omega), wrong_bad ho hd]; rfl
theorem wrong_three (c : PC) : wrongP c = 0 ∨ wrongP c = 160 ∨ wrongP c = 161 := by
  unfold wrongP; split <;> (try split) <;> simp
set_option maxHeartbeats 4000000 in
theorem dec_any (x : Int) (hx : 0 ≤ x ∧ x ≤ 4294967295) (w : World) (hF : FormsAt w) : Calls Tryz.prog 75 #[.int .u32 x] w (DecPost x w) := by
  obtain ⟨x1, x2⟩ := hx
  have HF := Lib.hid hF
  clear hF
  have HE := Lib.hid (dec_wrong x)
  have HT := Lib.hid (wrong_three ⟨x / 16777216, x / 1048576 % 16, x / 65536 % 16, sgn x⟩)
  have ea : bits .and .u32 (x / 1048576) 15 = x / 1048576 % 16 := and15 (by omega) (by omega)
  have eb : bits .and .u32 (x / 65536) 15 = x / 65536 % 16 := and15 (by omega) (by omega)
  have ei := low_sgn (x := x)
  have hs := sgn_range x
  have ha : 0 ≤ x / 1048576 % 16 ∧ x / 1048576 % 16 ≤ 15 := by omega
  have hb : 0 ≤ x / 65536 % 16 ∧ x / 65536 % 16 ≤ 15 := by omega
  have ho : 0 ≤ x / 16777216 ∧ x / 16777216 ≤ 255 := by omega
  generalize sgn x = im at *
  generalize x / 1048576 % 16 = am at *
  generalize x / 65536 % 16 = bm at *
  obtain ⟨s1, s2⟩ := hs
  obtain ⟨a1, a2⟩ := ha
  obtain ⟨b1, b2⟩ := hb
  obtain ⟨o1, o2⟩ := ho
  obtain ⟨n, hn⟩ : ∃ n, wrongP ⟨x / 16777216, am, bm, im⟩ = n := ⟨_, rfl⟩
  have HW := Lib.hid (wrong_at hn)
  unfold cV at HW
  simp only at HW
  have hN := HT.out
  rw [hn] at hN
  have HE2 := HE.out
  rw [hn] at HE2
  have HE3 := Lib.hid HE2
  clear HE HE2 hn HT
  rcases hN with rfl | rfl | rfl
  · have HE4 := Lib.hid (show decP x = (⟨x / 16777216, am, bm, im⟩, 0) from HE3.out.trans (by rfl))
    clear HE3
    go_enter Tryz.func75, Tryz.ntmps75
    go_wp2_with (go_at_call 106; refine (HW.out _ ((HF.out.alloc _).alloc _)).mono ?_; rintro e w3 ⟨rfl, hb3⟩; have hz3 : w.heap.size + 1 < w3.heap.size := (by have := hb3.size; simp at this; omega); have HR3 := Lib.hid ((hb3.block w.heap.size (by simp; omega)).trans ((Below.heap_alloc _ _ _ (by simp)).trans (heap_alloc_new w _))); have HS3 := Lib.hid ((hb3.block (w.heap.size + 1) (by simp)).trans (second_new w _ _)); have HB3 := Lib.hid hb3; clear hb3; obtain ⟨⟨c0, c1, c2, c3⟩, f0, f1, f2, f3⟩ := four HR3.out; obtain ⟨⟨d0, d1, d2, d3⟩, g0, g1, g2, g3⟩ := four HS3.out)
    obtain ⟨gw, ew⟩ := set_row4 (.int .i64 (x / 16777216)) (.int .i64 am) (.int .i64 bm) (.int .i64 im) HR3.out
    have GW := Lib.hid gw
    generalize hwe : ((((w3.setCell ⟨w.heap.size, 0, none⟩ (.int .i64 (x / 16777216))).setCell ⟨w.heap.size, 1, none⟩ (.int .i64 am)).setCell ⟨w.heap.size, 2, none⟩ (.int .i64 bm)).setCell ⟨w.heap.size, 3, none⟩ (.int .i64 im)) = we at ew ⊢
    rw [hwe] at gw
    clear hwe GW
    obtain ⟨p0, _⟩ := cell_of_block ew (k := 0) rfl
    obtain ⟨p1, _⟩ := cell_of_block ew (k := 1) rfl
    obtain ⟨p2, _⟩ := cell_of_block ew (k := 2) rfl
    obtain ⟨p3, _⟩ := cell_of_block ew (k := 3) rfl
    have HG := Lib.hid gw
    clear ew gw
    refine bodyPost_ret (v := .tuple #[cV ⟨x / 16777216, am, bm, im⟩, .int .i64 0]) ?_ rfl (DecPost.mk HE4.out (Below.grown (((below_one w _).alloc (by simp) _).trans (HB3.out.mono (by simp; omega))) HG.out (by omega) (fun k hk => by injection hk with hk; omega)))
    simp [results, Tryz.results75, go_sem, p0, p1, p2, p3]
  · have HE4 := Lib.hid (show decP x = (noC, 160) from HE3.out.trans (by rfl))
    clear HE3
    go_enter Tryz.func75, Tryz.ntmps75
    go_wp2_with (go_at_call 106; refine (HW.out _ ((HF.out.alloc _).alloc _)).mono ?_; rintro e w3 ⟨rfl, hb3⟩; have hz3 : w.heap.size + 1 < w3.heap.size := (by have := hb3.size; simp at this; omega); have HR3 := Lib.hid ((hb3.block w.heap.size (by simp; omega)).trans ((Below.heap_alloc _ _ _ (by simp)).trans (heap_alloc_new w _))); have HS3 := Lib.hid ((hb3.block (w.heap.size + 1) (by simp)).trans (second_new w _ _)); have HB3 := Lib.hid hb3; clear hb3; obtain ⟨⟨c0, c1, c2, c3⟩, f0, f1, f2, f3⟩ := four HR3.out; obtain ⟨⟨d0, d1, d2, d3⟩, g0, g1, g2, g3⟩ := four HS3.out)
    obtain ⟨gw, ew⟩ := set_row4 (.int .i64 0) (.int .i64 0) (.int .i64 0) (.int .i64 0) HR3.out
    have GW := Lib.hid gw
    generalize hwe : ((((w3.setCell ⟨w.heap.size, 0, none⟩ (.int .i64 0)).setCell ⟨w.heap.size, 1, none⟩ (.int .i64 0)).setCell ⟨w.heap.size, 2, none⟩ (.int .i64 0)).setCell ⟨w.heap.size, 3, none⟩ (.int .i64 0)) = we at ew ⊢
    rw [hwe] at gw
    clear hwe GW
    obtain ⟨p0, _⟩ := cell_of_block ew (k := 0) rfl
    obtain ⟨p1, _⟩ := cell_of_block ew (k := 1) rfl
    obtain ⟨p2, _⟩ := cell_of_block ew (k := 2) rfl
    obtain ⟨p3, _⟩ := cell_of_block ew (k := 3) rfl
    have HG := Lib.hid gw
    clear ew gw
    refine bodyPost_ret (v := .tuple #[cV noC, .int .i64 160]) ?_ rfl (DecPost.mk HE4.out (Below.grown (((below_one w _).alloc (by simp) _).trans (HB3.out.mono (by simp; omega))) HG.out (by omega) (fun k hk => by injection hk with hk; omega)))
    simp [results, Tryz.results75, go_sem, noC, p0, p1, p2, p3]
  · have HE4 := Lib.hid (show decP x = (noC, 161) from HE3.out.trans (by rfl))
    clear HE3
    go_enter Tryz.func75, Tryz.ntmps75
    go_wp2_with (go_at_call 106; refine (HW.out _ ((HF.out.alloc _).alloc _)).mono ?_; rintro e w3 ⟨rfl, hb3⟩; have hz3 : w.heap.size + 1 < w3.heap.size := (by have := hb3.size; simp at this; omega); have HR3 := Lib.hid ((hb3.block w.heap.size (by simp; omega)).trans ((Below.heap_alloc _ _ _ (by simp)).trans (heap_alloc_new w _))); have HS3 := Lib.hid ((hb3.block (w.heap.size + 1) (by simp)).trans (second_new w _ _)); have HB3 := Lib.hid hb3; clear hb3; obtain ⟨⟨c0, c1, c2, c3⟩, f0, f1, f2, f3⟩ := four HR3.out; obtain ⟨⟨d0, d1, d2, d3⟩, g0, g1, g2, g3⟩ := four HS3.out)
    obtain ⟨gw, ew⟩ := set_row4 (.int .i64 0) (.int .i64 0) (.int .i64 0) (.int .i64 0) HR3.out
    have GW := Lib.hid gw
    generalize hwe : ((((w3.setCell ⟨w.heap.size, 0, none⟩ (.int .i64 0)).setCell ⟨w.heap.size, 1, none⟩ (.int .i64 0)).setCell ⟨w.heap.size, 2, none⟩ (.int .i64 0)).setCell ⟨w.heap.size, 3, none⟩ (.int .i64 0)) = we at ew ⊢
    rw [hwe] at gw
    clear hwe GW
    obtain ⟨p0, _⟩ := cell_of_block ew (k := 0) rfl
    obtain ⟨p1, _⟩ := cell_of_block ew (k := 1) rfl
    obtain ⟨p2, _⟩ := cell_of_block ew (k := 2) rfl
    obtain ⟨p3, _⟩ := cell_of_block ew (k := 3) rfl
    have HG := Lib.hid gw
    clear ew gw
    refine bodyPost_ret (v := .tuple #[cV noC, .int .i64 161]) ?_ rfl (DecPost.mk HE4.out (Below.grown (((below_one w _).alloc (by simp) _).trans (HB3.out.mono (by simp; omega))) HG.out (by omega) (fun k hk => by injection hk with hk; omega)))
    simp [results, Tryz.results75, go_sem, noC, p0, p1, p2, p3]
end Go.Proofs.YthojmbljlehpbaaGreatDoor.Enc
