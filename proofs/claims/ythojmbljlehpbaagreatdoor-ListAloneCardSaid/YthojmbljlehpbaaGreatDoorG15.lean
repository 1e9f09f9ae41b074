/- What the program's assembler and Decode do. -/
import Derived.Test.YthojmbljlehpbaaGreatDoorG13
import Derived.Test.YthojmbljlehpbaaGreatDoorG02
import Derived.Test.YthojmbljlehpbaaGreatDoorG07
import Derived.Deep.AppendLies
import Derived.Lib.LaidTab
import Derived.Lib.OthersKept
namespace Go.Proofs.YthojmbljlehpbaaGreatDoor.Relax
open Go.RowKit Go.Proofs.YthojmbljlehpbaaGreatDoor.Enc
theorem does : DoesAsm := ⟨fun l v w hl hs hF => assemble_prog l v w hl hs hF⟩
theorem doesDec : Enc.DoesDec := ⟨fun x w hx hF => Enc.dec_any x hx w hF⟩
end Go.Proofs.YthojmbljlehpbaaGreatDoor.Relax
namespace Go.Proofs.YthojmbljlehpbaaGreatDoor.Lists
open Go.RowKit Go.Proofs.YthojmbljlehpbaaGreatDoor.Relax Go.Proofs.YthojmbljlehpbaaGreatDoor.Graph Go.Lib
open Go.Proofs.YthojmbljlehpbaaGreatDoor.Enc hiding below_one bt ret_bool

def wdV : Option Wd → Value
  | none => .nilIface
  | some (.name n) => .iface 131 (.int .i64 n)
  | some (.reg n) => .iface 133 (.int .i64 n)
  | some (.lab n) => .iface 107 (.int .i64 n)
  | some (.mark n) => .iface 103 (.int .i64 n)
  | some (.num n) => .iface 105 (.int .i64 n)
theorem wdV_one (x : Option Wd) : (wdV x).oneCell' = true := by
  rcases x with _ | x
  · rfl
  · cases x <;> rfl
def asName : Option Wd → Int × Bool | some (.name n) => (n, true) | _ => (0, false)
def asReg : Option Wd → Int × Bool | some (.reg n) => (n, true) | _ => (0, false)
def asLab : Option Wd → Int × Bool | some (.lab n) => (n, true) | _ => (0, false)
def asMark : Option Wd → Int × Bool | some (.mark n) => (n, true) | _ => (0, false)
def asNum : Option Wd → Int × Bool | some (.num n) => (n, true) | _ => (0, false)
theorem as_name (x : Option Wd) (w : World) : (Instr.typeAssert (wdV x) 20 131 true).run Tryz.prog w = .ok (.tuple #[.int .i64 (asName x).1, .bool (asName x).2]) w := by
  rcases x with _ | x
  · kernel_rfl
  · cases x <;> kernel_rfl
theorem as_reg (x : Option Wd) (w : World) : (Instr.typeAssert (wdV x) 20 133 true).run Tryz.prog w = .ok (.tuple #[.int .i64 (asReg x).1, .bool (asReg x).2]) w := by
  rcases x with _ | x
  · kernel_rfl
  · cases x <;> kernel_rfl
theorem as_lab (x : Option Wd) (w : World) : (Instr.typeAssert (wdV x) 20 107 true).run Tryz.prog w = .ok (.tuple #[.int .i64 (asLab x).1, .bool (asLab x).2]) w := by
  rcases x with _ | x
  · kernel_rfl
  · cases x <;> kernel_rfl
theorem as_mark (x : Option Wd) (w : World) : (Instr.typeAssert (wdV x) 20 103 true).run Tryz.prog w = .ok (.tuple #[.int .i64 (asMark x).1, .bool (asMark x).2]) w := by
  rcases x with _ | x
  · kernel_rfl
  · cases x <;> kernel_rfl
theorem as_num (x : Option Wd) (w : World) : (Instr.typeAssert (wdV x) 20 105 true).run Tryz.prog w = .ok (.tuple #[.int .i64 (asNum x).1, .bool (asNum x).2]) w := by
  rcases x with _ | x
  · kernel_rfl
  · cases x <;> kernel_rfl
/-- A row of words. -/
def WdsR (w : World) (v : Value) (l : List (Option Wd)) : Prop := SlR w 1 v l.length fun i b o => ∀ x, l[i]? = some x → w.cell? ⟨b, o, none⟩ = some (wdV x)
theorem WdsR.below {w w' : World} {v : Value} {l : List (Option Wd)} (h : WdsR w v l) (hb : Below w.heap.size w w') : WdsR w' v l := SlR.below h hb fun _ _ _ hl hP x hx => (cell_below hb hl _).trans (hP x hx)
theorem wds_own {w : World} {B : Nat} {v : Value} {l : List (Option Wd)} (h : w.ownsRow B 20 1 v l.length (l.map wdV)) : WdsR w v l := by
  rcases Nat.eq_zero_or_pos l.length with h0 | h0
  · obtain ⟨_, ⟨rfl, _⟩ | ⟨g, cap, cur, rfl, _⟩⟩ := h
    · exact .inl ⟨h0, _, _, rfl⟩
    · exact .inl ⟨h0, _, _, by rw [h0]⟩
  · obtain ⟨g, cap, rfl, _, h3, h4, h5, h6⟩ := row_at h h0
    refine .inr ⟨g, 0, cap, rfl, h0, ⟨h3, h4⟩, h5, fun i hi x hx => ?_⟩
    rw [Nat.zero_add, Nat.mul_one]
    exact h6 _ _ (by rw [List.getElem?_map, hx]; rfl)
theorem wds_pt {w : World} {p : Option Addr} {n c : Nat} {l : List (Option Wd)} (h : WdsR w (.slice p n c) l) {k : Nat} (hk : k < l.length) :
    ∃ b o x, p = some ⟨b, o, none⟩ ∧ l[k]? = some x ∧ b < w.heap.size ∧ w.cell? ⟨b, o + k, none⟩ = some (wdV x) ∧ l.length ≤ c ∧ c ≤ 9223372036854775807 := by
  obtain ⟨b, o, c', h1, h2, h3, h4⟩ := SlR.form2 h (by omega)
  injection h1 with h1 _ h5
  subst h1 h5
  obtain ⟨x, hx⟩ : ∃ x, l[k]? = some x := ⟨_, List.getElem?_eq_getElem hk⟩
  have := h4 k hk x hx
  rw [Nat.mul_one] at this
  exact ⟨b, o, x, rfl, hx, h3, this, h2.1, h2.2⟩
theorem info_any : (Tryz.prog.info? 20).map (fun i => (i.zero, i.size, i.bytes)) = some (some .nilIface, 1, 16) := by kernel_rfl
/-- A row of one, made now. -/
theorem own_one (w : World) (x : Option Wd) : (w.alloc (.cells #[wdV x] 20)).ownsRow w.heap.size 20 1 (.slice (some ⟨w.heap.size, 0, none⟩) 1 1) 1 [wdV x] :=
  ⟨rfl, .inr ⟨w.heap.size, 1, #[wdV x], rfl, Nat.le_refl _, heap_alloc_new w _, Nat.le_refl _, by unfold maxLen; omega, rfl, rfl⟩⟩
/-- A word more, behind a row of one's own. -/
theorem wpList_push {w : World} {ops : Array Oper} {rest : List Oper} {o : Oper} {a : Act} {Q : Exit → Act → World → Prop} (hgd : o.guard = none) (s x : Operand)
    (ho : o.op = .call { callee := .builtin .append, args := #[s, x], argTypes := #[59, 59] }) (B : Nat) (v : Value) (n : Nat) (xs : List Value) (hs : a.eval s = v)
    (hown : w.ownsRow B 20 1 v n xs) (y : Option Wd) (H : Nat) (hH : w.heap.size = H) (hx : a.eval x = .slice (some ⟨H, 0, none⟩) 1 1) (hn : n ≤ 1000000) (hB : B ≤ w.heap.size)
    (h : ∀ g cap w', w'.ownsRow B 20 1 (.slice (some ⟨g, 0, none⟩) (n + 1) cap) (n + 1) (xs ++ [wdV y]) → (w.alloc (.cells #[wdV y] 20)).grownBy w' v.ownBlock → Below B w w' → n + 1 ≤ cap → cap ≤ 9223372036854775807 → wpList Tryz.prog ops Q rest (a.put o.dst (.slice (some ⟨g, 0, none⟩) (n + 1) cap)) w') :
    wpList Tryz.prog ops Q (o :: rest) a (w.alloc (.cells #[wdV y] 20)) := by
  obtain ⟨i0, HI, hz0, hz1, hz2⟩ := info_parts info_any
  subst hH
  refine wpList_append_lies _ hgd s x 59 ho B 20 i0 _ 1 16 Tryz.underlying59 HI hz0 hz1 hz2 rfl (by omega) v n xs hs (row_below hown (below_one _ _)) ⟨w.heap.size, 0, none⟩ 1 1 [wdV y] hx rfl (fun j u hj => ?_) (fun u hu => ?_) (by omega) (by unfold maxLen; omega) (by omega) (by simp; omega) _ rfl ?_
  · match j, hj with
    | 0, hj => simp at hj; subst hj; simp [Addr.add]
    | (j + 1), hj => simp at hj
  · rw [List.mem_singleton.1 hu]; exact wdV_one y
  · intro g cap w' h1 h2 _ _
    have hc : n + 1 ≤ cap ∧ cap ≤ 9223372036854775807 := by
      obtain ⟨_, ⟨e, _⟩ | ⟨g2, cap2, cur, e, _, _, h5, h6, _⟩⟩ := h1
      · cases e
      · injection e with _ _ e
        subst e
        unfold maxLen at h6
        exact ⟨h5, by omega⟩
    exact h g cap w' h1 h2 (Below.grown ((Below.refl _ _).alloc hB _) h2 (by simp; omega) (fun q hq => (hown.lt q hq).1)) hc.1 hc.2
def nameCells : Array Value := (namesL.map fun s => Value.string ⟨s.toArray⟩).toArray
/-- What the package variables hold. -/
structure LaidL (w : World) : Prop where
  forms : FormsAt w
  names : ∃ t fr, w.heap[0]? = some (.cells nameCells t fr)
  pow : TabIs Tryz.prog w "internal/strconv.uint64pow10" .u64 pow10Tab
  syn : ∃ te pe, w.cell? ⟨6, 0, none⟩ = some (.iface te pe)
  ran : ∃ te pe, w.cell? ⟨7, 0, none⟩ = some (.iface te pe)
  pos : 8 ≤ w.heap.size
theorem gPow : Tryz.prog.globalNamed "internal/strconv.uint64pow10" = some 2 := by kernel_rfl
theorem LaidL.below {w w' : World} (h : LaidL w) (hb : Below w.heap.size w w') : LaidL w' := by
  have hp := h.pos
  refine ⟨h.forms.below hb, ?_, ?_, ?_, ?_, Nat.le_trans hp hb.size⟩
  · obtain ⟨t, fr, h1⟩ := h.names
    exact ⟨t, fr, (hb.block _ (by omega)).trans h1⟩
  · have h1 := h.pow
    unfold TabIs at h1 ⊢
    rw [← h1]
    exact World.Since.var ⟨hb.os, hb.tape, hb.output, hb.size, hb.block⟩ gPow (by omega)
  · obtain ⟨t, p, h1⟩ := h.syn
    exact ⟨t, p, (hb.cell (p := ⟨6, 0, none⟩) (by show 6 < _; omega)).trans h1⟩
  · obtain ⟨t, p, h1⟩ := h.ran
    exact ⟨t, p, (hb.cell (p := ⟨7, 0, none⟩) (by show 7 < _; omega)).trans h1⟩
theorem LaidL.alloc {w : World} (h : LaidL w) (o : Obj) : LaidL (w.alloc o) := h.below (below_one w o)
theorem LaidL.name {w : World} (h : LaidL w) {op : Int} (h1 : 0 ≤ op) (h2 : op < 49) : w.cell? ⟨0, op.toNat, none⟩ = some (.string ⟨(nameB op).toArray⟩) := by
  obtain ⟨t, fr, h3⟩ := h.names
  have h4 : op.toNat < namesL.length := by rw [names_len]; omega
  have : nameCells[op.toNat]? = some (.string ⟨(nameB op).toArray⟩) := by
    unfold nameCells nameB
    rw [List.getElem?_toArray, List.getElem?_map, List.getD_eq_getElem?_getD, List.getElem?_eq_getElem h4]; rfl
  simp [World.cell?, h3, this]
end Go.Proofs.YthojmbljlehpbaaGreatDoor.Lists
namespace Go.Proofs.YthojmbljlehpbaaGreatDoor.Lists
open Go.RowKit Go.Proofs.YthojmbljlehpbaaGreatDoor.Relax Go.Proofs.YthojmbljlehpbaaGreatDoor.Graph Go.Lib
open Go.Proofs.YthojmbljlehpbaaGreatDoor.Enc hiding below_one bt ret_bool

set_option maxHeartbeats 4000000 in
theorem isCode_any (c : PC) (w : World) (hF : FormsAt w) : Calls Tryz.prog 91 #[cV c] w fun e w' => e = .returned (.bool (isCodeB c)) ∧ Below w.heap.size w w' := by
  have HE := Lib.hid (enc_any c (w.alloc (.cells #[.int .i64 c.op, .int .i64 c.a, .int .i64 c.b, .int .i64 c.imm] 102)) (hF.alloc _))
  have HB := Lib.hid (below_one w (.cells #[.int .i64 c.op, .int .i64 c.a, .int .i64 c.b, .int .i64 c.imm] 102))
  unfold EncPost at HE
  obtain ⟨y, hy⟩ : ∃ y, y = (encP c).2 := ⟨_, rfl⟩
  obtain ⟨x, hx⟩ : ∃ x, x = (encP c).1 := ⟨_, rfl⟩
  have HR : Hid (isCodeB c = decide (y = 0)) := Lib.hid (by unfold isCodeB; rw [hy])
  rw [← hy, ← hx] at HE
  clear hy hx hF
  unfold cV at HE ⊢
  go_enter Tryz.func91, Tryz.ntmps91
  go_wp2_with (
    go_at_call 119
    refine HE.out.mono ?_
    rintro e w2 ⟨rfl, hb2⟩
    have H2 := Lib.hid hb2
    clear hb2)
  all_goals go_ret
  all_goals
    refine ⟨ret_bool ?_, bt HB.out H2.out⟩
  all_goals (rw [HR.out])
  all_goals first | rfl | (simp_all; done)
set_option maxHeartbeats 2000000 in
theorem reckons_any (n : Int) (w : World) : Calls Tryz.prog 92 #[.int .i64 n] w fun e w' => e = .returned (.bool (reckonsB n)) ∧ w' = w := by
  go_enter Tryz.func92, Tryz.ntmps92
  go_wp2
  all_goals go_ret
  all_goals refine ⟨ret_bool ?_, rfl⟩
  all_goals (unfold reckonsB; rw [Bool.eq_iff_iff]; simp_all <;> omega)
set_option maxHeartbeats 2000000 in
theorem leads_any (n : Int) (w : World) : Calls Tryz.prog 57 #[.int .i64 n] w fun e w' => e = .returned (.bool (leadsB n)) ∧ w' = w := by
  go_enter Tryz.func57, Tryz.ntmps57
  go_wp2
  all_goals go_ret
  all_goals refine ⟨ret_bool ?_, rfl⟩
  all_goals (unfold leadsB; rw [Bool.eq_iff_iff]; simp_all <;> omega)
set_option maxHeartbeats 4000000 in
theorem counts_any (n : Int) (w : World) (hF : FormsAt w) : Calls Tryz.prog 93 #[.int .i64 n] w fun e w' => e = .returned (.bool (countsB n)) ∧ Below w.heap.size w w' := by
  have HC := Lib.hid (isCode_any ⟨n, 0, 0, 1⟩ w hF)
  have HR := Lib.hid (fun (W : World) => reckons_any n W)
  unfold cV at HC
  obtain ⟨y, hy⟩ : ∃ y, y = isCodeB ⟨n, 0, 0, 1⟩ := ⟨_, rfl⟩
  obtain ⟨x, hx⟩ : ∃ x, x = reckonsB n := ⟨_, rfl⟩
  have HE : Hid (countsB n = (y && !x)) := Lib.hid (by unfold countsB; rw [hy, hx])
  rw [← hy] at HC
  rw [← hx] at HR
  clear hy hx hF
  rcases (show y = true ∨ y = false by cases y <;> simp) with rfl | rfl
  all_goals
    go_enter Tryz.func93, Tryz.ntmps93
    go_wp2_with (first
      | (go_at_call 91
         refine HC.out.mono ?_
         rintro e w2 ⟨rfl, hb2⟩
         have H2 := Lib.hid hb2
         clear hb2)
      | (go_at_call 92
         refine (HR.out _).mono ?_
         rintro e w3 ⟨rfl, rfl⟩))
    go_ret
    refine ⟨ret_bool ?_, H2.out⟩
    rw [HE.out]
    first | rfl | (cases x <;> rfl)
/-- What the assembler answers to a list of one line. -/
theorem one_err (x : PL) {a : Asm} {line er : Int} (h : asmP [x] = (a, line, er)) : mayB x = (decide (er ≠ 170) && decide (er ≠ 171)) := by
  have hl : lineErr [x] 0 = if x.op < 0 ∨ 48 < x.op then 170 else if mayL x then 0 else 171 := by
    unfold lineErr
    show (if x.op < 0 ∨ 48 < x.op then 170 else if mayL x then (if x.op = 0 ∧ (standsAt [x] x.label 0).isSome then 172 else 0) else 171) = _
    rw [show (if x.op = 0 ∧ (standsAt [x] x.label 0).isSome = true then (172 : Int) else 0) = 0 from if_neg (fun h => by cases h.2)]
  have hr : refusedP [x] = if lineErr [x] 0 = 0 then (match firstErr (labErr [x]) 0 1 with | some (i, e) => ((i : Int), e) | none => (0, 0)) else (0, lineErr [x] 0) := by
    unfold refusedP
    rw [if_neg (by simp)]
    show (match firstErr (lineErr [x]) 0 1 with | some (i, e) => ((i : Int), e) | none => _) = _
    unfold firstErr
    by_cases h0 : lineErr [x] 0 = 0
    · rw [if_pos h0, if_pos h0]; rfl
    · rw [if_neg h0, if_neg h0]; rfl
  have hlab : ∀ i e, firstErr (labErr [x]) 0 1 = some (i, e) → e = 173 := fun i e h => by
    have := firstErr_some h
    obtain ⟨_, _, h3, h4⟩ := this
    subst h3
    unfold labErr at h4 ⊢
    split
    · rfl
    · rename_i hq; rw [if_neg hq] at h4; exact absurd rfl h4
  have hne : ∀ e, (refusedP [x]).2 = e → asmP [x] = (a, line, er) → (e ≠ 0 → er = e) ∧ (e = 0 → er = 0 ∨ er = 174) := fun e he h => by
    unfold asmP at h
    refine ⟨fun h0 => ?_, fun h0 => ?_⟩
    · rw [if_neg (by rw [he]; exact h0)] at h
      injection h with _ h
      rw [h] at he
      exact he
    · rw [if_pos (by rw [he]; exact h0)] at h
      split at h
      · injection h with _ h; injection h with _ h; exact .inr h.symm
      · injection h with _ h; injection h with _ h; exact .inl h.symm
  unfold mayB
  by_cases h1 : x.op < 0 ∨ 48 < x.op
  · rw [if_pos h1] at hl
    have := (hne 170 (by rw [hr, hl]; rfl) h).1 (by decide)
    rw [this, decide_eq_false (by omega)]; rfl
  · rw [if_neg h1] at hl
    rw [decide_eq_true (by omega), Bool.true_and]
    cases hm : mayL x with
    | false =>
      rw [hm] at hl
      have := (hne 171 (by rw [hr, hl]; rfl) h).1 (by decide)
      rw [this]; rfl
    | true =>
      rw [hm] at hl
      have hl0 : lineErr [x] 0 = 0 := hl
      rw [if_pos hl0] at hr
      have : er = 173 ∨ er = 0 ∨ er = 174 := by
        cases hf : firstErr (labErr [x]) 0 1 with
        | none =>
          rw [hf] at hr
          exact .inr ((hne 0 (by rw [hr]) h).2 rfl)
        | some q =>
          obtain ⟨i, e⟩ := q
          rw [hf] at hr
          have he := hlab i e hf
          exact .inl ((hne 173 (by rw [hr]; exact he) h).1 (by decide))
      rcases this with rfl | rfl | rfl <;> rfl
theorem line_one {w : World} {x : PL} {vl : Value} (t : TypeId) (h : IntsR w vl x.list) : LinesR (w.alloc (.cells #[.int .i64 x.op, .int .i64 x.a, .int .i64 x.b, .int .i64 x.imm, .int .u32 x.n, .int .i64 x.label, vl] t)) (.slice (some ⟨w.heap.size, 0, none⟩) 1 1) [x] := by
  refine .inr ⟨w.heap.size, 0, 1, rfl, by simp, ⟨by simp, by simp⟩, by simp, fun i hi y hy => ⟨vl, ?_⟩⟩
  obtain rfl : i = 0 := by simp at hi; omega
  injection hy with hy
  subst hy
  have hb := heap_alloc_new w (.cells #[.int .i64 x.op, .int .i64 x.a, .int .i64 x.b, .int .i64 x.imm, .int .u32 x.n, .int .i64 x.label, vl] t)
  exact ⟨cell_of_block hb rfl, cell_of_block hb rfl, cell_of_block hb rfl, cell_of_block hb rfl, cell_of_block hb rfl, cell_of_block hb rfl, cell_of_block hb rfl, h.below (below_one w _)⟩
set_option maxHeartbeats 8000000 in
set_option maxRecDepth 100000 in
theorem mayBe_any (x : PL) (p : Option Addr) (c : Nat) (w : World) (hF : FormsAt w) (hl : IntsR w (.slice p x.list.length c) x.list) (hm : x.list.length ≤ 100000000000000) :
    Calls Tryz.prog 27 #[lineV x p x.list.length c] w fun e w' => e = .returned (.bool (mayB x)) ∧ Below w.heap.size w w' := by
  obtain ⟨q, hq⟩ : ∃ q, asmP [x] = q := ⟨_, rfl⟩
  obtain ⟨asm, line, er⟩ := q
  have HR := Lib.hid (one_err x hq)
  obtain ⟨m, hmm⟩ : ∃ m, m = x.list.length := ⟨_, rfl⟩
  rw [← hmm] at hm
  have HW1 := Lib.hid (below_one w (.cells #[.int .i64 x.op, .int .i64 x.a, .int .i64 x.b, .int .i64 x.imm, .int .u32 x.n, .int .i64 x.label, .slice p m c] 52))
  have HA := Lib.hid (does.at_ hq (.slice (some ⟨w.heap.size + 1, 0, none⟩) 1 1) ((w.alloc (.cells #[.int .i64 x.op, .int .i64 x.a, .int .i64 x.b, .int .i64 x.imm, .int .u32 x.n, .int .i64 x.label, .slice p m c] 52)).alloc (.cells #[.int .i64 x.op, .int .i64 x.a, .int .i64 x.b, .int .i64 x.imm, .int .u32 x.n, .int .i64 x.label, .slice p m c] 52)) (by
    have := line_one (x := x) (vl := .slice p m c) 52 ((show IntsR w (.slice p m c) x.list by rw [hmm]; exact hl).below (below_one w (.cells #[.int .i64 x.op, .int .i64 x.a, .int .i64 x.b, .int .i64 x.imm, .int .u32 x.n, .int .i64 x.label, .slice p m c] 52)))
    rwa [World.size_alloc] at this) ⟨by simp, fun y hy => by rw [List.mem_singleton.1 hy, ← hmm]; exact hm⟩ ((hF.alloc _).alloc _))
  have HW2 := Lib.hid ((below_one w (.cells #[.int .i64 x.op, .int .i64 x.a, .int .i64 x.b, .int .i64 x.imm, .int .u32 x.n, .int .i64 x.label, .slice p m c] 52)).alloc (below_one w _).size (.cells #[.int .i64 x.op, .int .i64 x.a, .int .i64 x.b, .int .i64 x.imm, .int .u32 x.n, .int .i64 x.label, .slice p m c] 52))
  unfold lineV
  rw [← hmm]
  clear hl hm hmm hq hF
  go_enter Tryz.func27, Tryz.ntmps27
  go_wp2_with (
    go_at_call 25
    refine HA.out.mono ?_
    rintro e w2 ⟨pw, cw, pk, ck, pp, cp, rfl, _, hb2⟩
    have H2 := Lib.hid (hb2.mono HW2.out.size)
    clear hb2)
  all_goals go_ret
  all_goals
    refine ⟨ret_bool ?_, ?_⟩
  all_goals first
    | (rw [HR.out]; simp_all; done)
    | (rw [HR.out, Bool.eq_iff_iff]; simp_all; done)
    | (rw [HR.out, Bool.eq_iff_iff]; by_cases h1 : er = 170 <;> by_cases h2 : er = 171 <;> simp_all; done)
    | exact (HW2.out.trans H2.out).alloc (Nat.le_trans HW2.out.size H2.out.size) _
    | exact ((HW2.out.trans H2.out).alloc (Nat.le_trans HW2.out.size H2.out.size) _).setCell (Nat.le_trans HW2.out.size H2.out.size) _
    | skip
end Go.Proofs.YthojmbljlehpbaaGreatDoor.Lists
