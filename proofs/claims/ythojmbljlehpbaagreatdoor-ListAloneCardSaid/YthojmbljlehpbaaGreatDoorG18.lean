/- strings.Builder, as package list writes into it: bytes and texts. No condition but sizes. -/
import Derived.Test.YthojmbljlehpbaaGreatDoorG17
import Derived.Test.YthojmbljlehpbaaGreatDoorG14
import Derived.Lib.UnsafeStr
import Derived.Lib.FrozenHead2
import Derived.Test.YthojmbljlehpbaaGreatDoorG02
namespace Go.Proofs.YthojmbljlehpbaaGreatDoor.Lists
open Go.RowKit Go.Proofs.YthojmbljlehpbaaGreatDoor.Relax Go.Proofs.YthojmbljlehpbaaGreatDoor.Graph
open Go.Proofs.YthojmbljlehpbaaGreatDoor.Enc hiding below_one bt ret_bool

theorem info_builder : (Tryz.prog.info? 56).map (fun i => i.size) = some 2 := by kernel_rfl
theorem lies_builder : liesAt Tryz.prog Tryz.prog.depth 56 (2 / Tryz.prog.cellsOf 56) 0 56 1 = true := by kernel_rfl
theorem info_byte : (Tryz.prog.info? 5).map (fun i => (i.zero, i.size, i.bytes)) = some (some (.int .u8 0), 1, 1) := by kernel_rfl
abbrev BldR (B b : Nat) (bs : List Value) (w : World) : Prop := Lib.IsBuilderF 56 5 B b bs w
abbrev Kept (b : Nat) (w w' : World) : Prop := Lib.OthersKept 5 (some b) w w'
set_option maxHeartbeats 2000000 in
set_option maxRecDepth 100000 in
theorem copyCheck_any (B b : Nat) (bs : List Value) (w : World) (h : BldR B b bs w) :
    Calls Tryz.prog 59 #[.pointer (some ⟨b, 0, none⟩)] w fun e w' => e = .returned (.tuple #[]) ∧ (Lib.BuilderAtF 56 5 B b (.pointer (some ⟨b, 0, none⟩)) bs w' ∧ Below B w w' ∧ Kept b w w') := by
  obtain ⟨j, hj, hjs⟩ := Option.map_eq_some_iff.1 info_builder
  rcases h with h | h
  · have hsh := h.shape
    have h0 := h.cell0
    have f0 := h.frozen0
    have HS := Lib.hid h
    have HJ := Lib.hid hj
    have HJS := Lib.hid hjs
    have HSH := Lib.hid hsh
    clear h hj hjs hsh
    go_enter Tryz.func59, Tryz.ntmps59
    go_wp2
    rw [Lib.run_to_unsafe w ⟨b, 0, none⟩ Tryz.underlying53 Tryz.underlying135 HJ.out (by rw [HJS.out]; decide) HSH.out (Nat.zero_lt_succ 1)]
    simp only [Result.andThen]
    rw [Oper.upon_value]
    go_wp2
    rw [run_callFunc_extern Tryz.func94 (by kernel_rfl) (by kernel_rfl) (by kernel_rfl) (e := Extern.AbiNoEscape.same) (by kernel_rfl)]
    rw [Lib.run_noEscape]
    simp only [Result.andThen]
    rw [Oper.upon_value]
    go_wp2
    rw [Lib.run_from_unsafe w ⟨b, 0, none⟩ Tryz.underlying135 Tryz.underlying53 HJ.out HSH.out lies_builder]
    simp only [Result.andThen]
    rw [Oper.upon_value]
    go_wp2
    go_end0
    exact ⟨rfl, HS.out.used _, (Below.refl B w).setCell (p := ⟨b, 0, none⟩) HS.out.1 _, (Lib.OthersKept.refl _ _ w).setCell ⟨b, 0, none⟩ rfl _⟩
  · have HJ := Lib.hid hj
    have HS := Lib.hid h
    have h0 := h.cell0
    clear h hj hjs
    go_enter Tryz.func59, Tryz.ntmps59
    go_wp2
    rw [Lib.run_neq_ptr_same w _ Tryz.underlying53 HJ.out]
    go_wp2
    go_end0
    exact ⟨rfl, HS.out, Below.refl B _, Lib.OthersKept.refl _ _ _⟩
theorem bld_cells {w : World} {b : Nat} {p v : Value} (hbk : w.heap[b]? = some (.cells #[p, v] 56 (0, 0))) : b < w.heap.size ∧ w.cell? ⟨b, 0, none⟩ = some p ∧ w.cell? ⟨b, 1, none⟩ = some v ∧ w.frozen? ⟨b, 1, none⟩ = false := by
  refine ⟨(Array.getElem?_eq_some_iff.1 hbk).1, ?_, ?_, Lib.frozen_of_heap hbk 1⟩
  · rw [Lib.cell_of_heap hbk]; rfl
  · rw [Lib.cell_of_heap hbk]; rfl
set_option maxHeartbeats 2000000 in
set_option maxRecDepth 100000 in
theorem writeByte_any (B b : Nat) (bs : List Value) (c : Int) (w : World) (h : BldR B b bs w) (hlen : bs.length + 1 ≤ 140737488355328) (hBw : B ≤ w.heap.size) :
    Calls Tryz.prog 30 #[.pointer (some ⟨b, 0, none⟩), .int .u8 c] w fun e w' => e = .returned .nilIface ∧ (BldR B b (bs ++ [.int .u8 c]) w' ∧ Below B w w' ∧ Kept b w w') := by
  obtain ⟨i0, hi, hz0, hz1, hz2⟩ := info_parts info_byte
  go_enter Tryz.func30, Tryz.ntmps30
  go_wp2_with (go_at_call 59; refine (copyCheck_any B b bs _ h).mono ?_)
  rintro e w1 ⟨rfl, ⟨hB, v, hbk, hown, hne⟩, hb1, hk1⟩
  obtain ⟨hlt, c0, c1, _⟩ := bld_cells hbk
  go_wp2_with (at_builtin; refine wpList_append_ownF _ rfl _ _ 54 rfl B 5 i0 (.int .u8 0) 1 1 Tryz.underlying54 hi hz0 hz1 hz2 rfl (by decide) _ _ _ rfl (hown.alloc _) ⟨w1.heap.size, 0, none⟩ 1 1 [.int .u8 c] rfl rfl ?c1 ?c2 ?c3 ?c4 ?c5 ?_)
  case c1 =>
    intro j u hj
    match j, hj with
    | 0, hj => simp at hj; subst hj; simp [Addr.add]
  case c2 => intro u hu; simp at hu; subst hu; rfl
  case c3 => unfold maxLen; omega
  case c4 => omega
  case c5 => have := hb1.size; simp; omega
  intro v' w2 hown' hgrow _
  have hb2 : w2.heap[b]? = some (.cells #[.pointer (some ⟨b, 0, none⟩), v] 56 (0, 0)) := by
    rw [hgrow.block b (by simp; omega) (fun e => hne e.symm), Lib.alloc_old w1 _ b hlt]
    exact hbk
  obtain ⟨_, d0, d1, f1⟩ := bld_cells hb2
  obtain ⟨g, cap, rfl⟩ : ∃ g cap, v' = .slice (some ⟨g, 0, none⟩) (bs.length + 1) cap := by
    rcases hown'.2 with ⟨_, h0⟩ | ⟨g, cap, cur, fz, hv, _⟩
    · omega
    · exact ⟨g, cap, hv⟩
  go_wp2
  go_ret
  refine ⟨rfl, .inr ?_, ?_, ((hk1.alloc _).grown hgrow (Lib.ownsRowF_kind (hown.alloc _))).setCell ⟨b, 1, none⟩ rfl _⟩
  · exact Lib.BuilderAtF.put (T := 56) (e := 5) hB hb2 (bs' := bs ++ [.int .u8 c]) (by simpa using hown') (by decide)
  · exact ((hb1.alloc (by have := hb1.size; omega) _).grown hgrow (by have := hb1.size; simp; omega) (fun k hk => (hown.lt k hk).1)).setCell (p := ⟨b, 1, none⟩) hB _
set_option maxHeartbeats 2000000 in
set_option maxRecDepth 100000 in
theorem writeString_any (B b : Nat) (bs : List Value) (s : ByteArray) (w : World) (h : BldR B b bs w) (hlen : bs.length + s.size ≤ 140737488355328) (hBw : B ≤ w.heap.size) :
    Calls Tryz.prog 39 #[.pointer (some ⟨b, 0, none⟩), .string s] w fun e w' => (∃ v, e = .returned v) ∧ (BldR B b (bs ++ Lib.strCells s) w' ∧ Below B w w' ∧ Kept b w w') := by
  obtain ⟨i0, hi, hz0, hz1, hz2⟩ := info_parts info_byte
  go_enter Tryz.func39, Tryz.ntmps39
  go_wp2_with (go_at_call 59; refine (copyCheck_any B b bs _ h).mono ?_)
  rintro e w1 ⟨rfl, ⟨hB, v, hbk, hown, hne⟩, hb1, hk1⟩
  obtain ⟨hlt, c0, c1, _⟩ := bld_cells hbk
  go_wp2_with (at_builtin; refine Lib.wpList_append_own_stringF _ rfl _ _ 54 9 rfl B 5 i0 Tryz.underlying54 Tryz.underlying9 hi hz0 hz1 hz2 _ _ _ rfl hown s rfl ?c3 ?c4 ?c5 ?_)
  case c3 => unfold maxLen; omega
  case c4 => omega
  case c5 => have := hb1.size; omega
  intro v' w2 hown' hgrow _
  have hb2 : w2.heap[b]? = some (.cells #[.pointer (some ⟨b, 0, none⟩), v] 56 (0, 0)) := by
    rw [hgrow.block b hlt (fun e => hne e.symm)]
    exact hbk
  obtain ⟨_, d0, d1, f1⟩ := bld_cells hb2
  obtain ⟨ao, n', cap, rfl⟩ : ∃ ao n' cap, v' = .slice ao n' cap := by
    rcases hown'.2 with ⟨hv, _⟩ | ⟨g, cap, cur, fz, hv, _⟩
    · exact ⟨_, _, _, hv⟩
    · exact ⟨_, _, _, hv⟩
  go_wp2
  go_ret2
  refine ⟨⟨_, rfl⟩, .inr ?_, ?_, (hk1.grown hgrow (Lib.ownsRowF_kind hown)).setCell ⟨b, 1, none⟩ rfl _⟩
  · exact Lib.BuilderAtF.put (T := 56) (e := 5) hB hb2 (bs' := bs ++ Lib.strCells s) (by simpa [Lib.strCells_length] using hown') (by decide)
  · exact (hb1.grown hgrow (by have := hb1.size; omega) (fun k hk => (hown.lt k hk).1)).setCell (p := ⟨b, 1, none⟩) hB _
end Go.Proofs.YthojmbljlehpbaaGreatDoor.Lists
namespace Go.Proofs.YthojmbljlehpbaaGreatDoor.Lists
open Go.Proofs.YthojmbljlehpbaaGreatDoor.Enc Go.Proofs.YthojmbljlehpbaaGreatDoor.Relax Go.Lib

/-- What a reader has read. -/
structure Rd where
  cur : Option (List UInt8)
  remark : Bool
  words : List (Option Wd)
  lines : List PL
  count : Nat
  number : Nat
  wrong : Bool
def rd0 : Rd := ⟨none, false, [], [], 0, 0, false⟩
def endW (r : Rd) : Rd := match r.cur with
  | none => r
  | some c => { r with cur := none, words := if r.words.length ≤ 402 then r.words ++ [wordP c] else r.words }
def nextL (r : Rd) : Rd := { r with words := [], remark := false, number := r.number + 1 }
def endL (r : Rd) : Rd :=
  if r.words = [] then nextL r
  else match lineP r.words with
    | none => { r with wrong := true }
    | some x => nextL { r with lines := if r.count + 1 ≤ 60000 then r.lines ++ [x] else r.lines, count := r.count + 1 }
def otherB (r : Rd) (b : UInt8) : Rd := match r.cur with
  | none => if r.remark then r else { r with cur := some [b] }
  | some c => { r with cur := some (c ++ [b]) }
def takeB (r : Rd) (b : UInt8) : Rd :=
  if b = 10 then endL (endW r)
  else if b = 59 ∨ b = 32 ∨ b = 9 then { endW r with remark := r.remark || decide (b = 59) }
  else otherB r b
/-- One byte more; once a line is wrong, nothing is read. -/
def stepR (r : Rd) (b : UInt8) : Rd := if r.wrong then r else takeB r b
def readR (s : List UInt8) (r : Rd) : Rd := s.foldl stepR r
def parseRd (s : List UInt8) : Rd := readR (s ++ [10]) rd0
/-- The lines of a text, or which is none, and why. -/
def parseP (s : List UInt8) : List PL × Int × Int :=
  if (parseRd s).wrong then ([], ((parseRd s).number : Int), 220)
  else if 60000 < (parseRd s).count then ([], 0, 2) else ((parseRd s).lines, 0, 0)
theorem read_append (s t : List UInt8) (r : Rd) : readR (s ++ t) r = readR t (readR s r) := List.foldl_append
theorem read_cons (b : UInt8) (t : List UInt8) (r : Rd) : readR (b :: t) r = readR t (stepR r b) := rfl
theorem read_nil (r : Rd) : readR [] r = r := rfl
theorem step_of {r : Rd} (h : r.wrong = false) (b : UInt8) : stepR r b = takeB r b := by unfold stepR; rw [h]; rfl
theorem step_wrong {r : Rd} (h : r.wrong = true) (b : UInt8) : stepR r b = r := by unfold stepR; rw [if_pos h]
theorem read_wrong {r : Rd} (h : r.wrong = true) : ∀ s, readR s r = r
  | [] => rfl
  | b :: t => by rw [read_cons, step_wrong h]; exact read_wrong h t
theorem endW_wrong (r : Rd) : (endW r).wrong = r.wrong := by unfold endW; cases r.cur <;> rfl
/-- What a line's text is. -/
def sepW : List Wd → List UInt8
  | [] => []
  | [x] => textW x
  | x :: t => textW x ++ 32 :: sepW t
def printL (l : List PL) : List UInt8 := l.flatMap fun x => sepW (wordsL x) ++ [10]
def mayAll (l : List PL) : Bool := l.all mayB
def printP (l : List PL) : List UInt8 × Int := if 60000 < l.length then ([], 2) else if mayAll l then (printL l, 0) else ([], 1)
/-- A word is read. -/
theorem read_some {c : List UInt8} : ∀ {w : List UInt8} {r : Rd}, r.wrong = false → r.cur = some c → (∀ b ∈ w, plainB b = true) → readR w r = { r with cur := some (c ++ w) } := by
  intro w
  induction w generalizing c with
  | nil =>
    intro r hw hc _
    rw [read_nil, List.append_nil, ← hc]
  | cons b t ih =>
    intro r hw hc hp
    have hb := hp b List.mem_cons_self
    unfold plainB at hb
    simp only [Bool.and_eq_true, bne_iff_ne, ne_eq] at hb
    rw [read_cons, step_of hw]
    have e : takeB r b = { r with cur := some (c ++ [b]) } := by
      unfold takeB otherB
      rw [if_neg hb.1.1.1, if_neg (fun h => h.elim hb.2 (fun h => h.elim hb.1.1.2 hb.1.2)), hc]
    rw [e, ih (r := { r with cur := some (c ++ [b]) }) hw rfl (fun x hx => hp x (List.mem_cons_of_mem _ hx))]
    simp
theorem read_word {w : List UInt8} {r : Rd} (h0 : w ≠ []) (hw : r.wrong = false) (hc : r.cur = none) (hr : r.remark = false) (hp : ∀ b ∈ w, plainB b = true) : readR w r = { r with cur := some w } := by
  cases w with
  | nil => exact absurd rfl h0
  | cons b t =>
    have hb := hp b List.mem_cons_self
    unfold plainB at hb
    simp only [Bool.and_eq_true, bne_iff_ne, ne_eq] at hb
    rw [read_cons, step_of hw]
    have e : takeB r b = { r with cur := some [b] } := by
      unfold takeB otherB
      rw [if_neg hb.1.1.1, if_neg (fun h => h.elim hb.2 (fun h => h.elim hb.1.1.2 hb.1.2)), hc]
      simp only [hr]; rfl
    rw [e, read_some (c := [b]) (r := { r with cur := some [b] }) hw rfl (fun x hx => hp x (List.mem_cons_of_mem _ hx))]
    simp
/-- A line's words are read, up to the last one's end. -/
theorem read_sep : ∀ (ws : List Wd) (x : Wd) {r : Rd}, r.wrong = false → r.cur = none → r.remark = false → r.words.length + ws.length ≤ 402 → (∀ y ∈ x :: ws, okW y) →
    endW (readR (sepW (x :: ws)) r) = { r with words := r.words ++ (x :: ws).map some }
  | [], x, r, hw, hc, hr, hn, ho => by
    obtain ⟨h1, h2⟩ := text_plain (ho x List.mem_cons_self)
    show endW (readR (textW x) r) = _
    rw [read_word h1 hw hc hr h2]
    unfold endW
    simp only
    rw [if_pos (by simpa using hn), word_text (ho x List.mem_cons_self), ← hc]
    rfl
  | y :: t, x, r, hw, hc, hr, hn, ho => by
    obtain ⟨h1, h2⟩ := text_plain (ho x List.mem_cons_self)
    show endW (readR (textW x ++ 32 :: sepW (y :: t)) r) = _
    rw [read_append, read_word h1 hw hc hr h2, read_cons, step_of (by exact hw)]
    have e : takeB { r with cur := some (textW x) } 32 = { r with words := r.words ++ [some x] } := by
      unfold takeB endW
      simp only
      rw [if_neg (by decide), if_pos (by decide), if_pos (by simp at hn; omega), word_text (ho x List.mem_cons_self), ← hc]
      simp
    rw [e, read_sep t y (by exact hw) (by exact hc) (by exact hr) (by simp at hn ⊢; omega) (fun z hz => ho z (List.mem_cons_of_mem _ hz))]
    simp
/-- A clean reader: between two lines. -/
structure Clean (r : Rd) : Prop where
  cur : r.cur = none
  remark : r.remark = false
  words : r.words = []
  wrong : r.wrong = false
theorem clean0 : Clean rd0 := ⟨rfl, rfl, rfl, rfl⟩
def withL (r : Rd) (x : PL) : Rd := { r with lines := if r.count + 1 ≤ 60000 then r.lines ++ [x] else r.lines, count := r.count + 1, number := r.number + 1 }
theorem withL_clean {r : Rd} (h : Clean r) (x : PL) : Clean (withL r x) := ⟨h.cur, h.remark, h.words, h.wrong⟩
/-- A line that is written is read. -/
theorem read_line {r : Rd} (h : Clean r) {x : PL} (hx : fineL x) : readR (sepW (wordsL x) ++ [10]) r = withL r x := by
  obtain ⟨h1, h2, h3⟩ := words_ok hx
  have hl := fine_line hx
  cases hw : wordsL x with
  | nil => rw [hw] at h2; simp at h2
  | cons y t =>
    rw [hw] at h1 h3 hl
    have e := read_sep t y h.wrong h.cur h.remark (by rw [h.words]; simp at h3 ⊢; omega) h1
    rw [read_append]
    have hwr : (readR (sepW (y :: t)) r).wrong = false := by rw [← endW_wrong, e]; exact h.wrong
    show stepR (readR (sepW (y :: t)) r) 10 = _
    rw [step_of hwr]
    unfold takeB
    rw [if_pos rfl, e]
    unfold endL
    simp only
    rw [h.words, List.nil_append, if_neg (by simp), hl]
    simp only
    obtain ⟨cur, remark, words, lines, count, number, wrong⟩ := r
    obtain ⟨rfl, rfl, rfl, rfl⟩ := h
    rfl
def withLs (r : Rd) (l : List PL) : Rd := l.foldl withL r
theorem read_lines : ∀ {l : List PL} {r : Rd}, Clean r → (∀ x ∈ l, fineL x) → readR (printL l) r = withLs r l ∧ Clean (withLs r l)
  | [], r, h, _ => ⟨rfl, h⟩
  | x :: t, r, h, hl => by
    have ih := read_lines (l := t) (withL_clean h x) (fun y hy => hl y (List.mem_cons_of_mem _ hy))
    refine ⟨?_, ih.2⟩
    show readR ((sepW (wordsL x) ++ [10]) ++ printL t) r = _
    rw [read_append, read_line h (hl x List.mem_cons_self), ih.1]
    rfl
theorem withLs_of : ∀ {l : List PL} {r : Rd}, r.count + l.length ≤ 60000 → (withLs r l).lines = r.lines ++ l ∧ (withLs r l).count = r.count + l.length ∧ (withLs r l).wrong = r.wrong
  | [], r, _ => ⟨by simp [withLs], rfl, rfl⟩
  | x :: t, r, h => by
    have hc : r.count + 1 ≤ 60000 := by simp at h; omega
    have ih := withLs_of (l := t) (r := withL r x) (by unfold withL; simp at h ⊢; omega)
    refine ⟨?_, ?_, ?_⟩
    · show (withLs (withL r x) t).lines = _
      rw [ih.1]; unfold withL; simp only; rw [if_pos hc]; simp
    · show (withLs (withL r x) t).count = _
      rw [ih.2.1]; unfold withL; simp only [List.length_cons]; omega
    · exact ih.2.2
theorem end_clean {r : Rd} (h : Clean r) : stepR r 10 = { r with number := r.number + 1 } := by
  rw [step_of h.wrong]
  obtain ⟨cur, remark, words, lines, count, number, wrong⟩ := r
  obtain ⟨rfl, rfl, rfl, rfl⟩ := h
  rfl
/-- What is printed is read. -/
theorem parse_print {l : List PL} (h : ∀ x ∈ l, fineL x) (hn : l.length ≤ 60000) : parseP (printL l) = (l, 0, 0) := by
  obtain ⟨h1, h2⟩ := read_lines clean0 h
  obtain ⟨h3, h4, h5⟩ := withLs_of (l := l) (r := rd0) (by show 0 + l.length ≤ _; omega)
  have e : parseRd (printL l) = { withLs rd0 l with number := (withLs rd0 l).number + 1 } := by
    unfold parseRd
    rw [read_append, h1]
    exact end_clean h2
  unfold parseP
  rw [e]
  simp only
  rw [h3, h4, h5]
  rw [if_neg (by decide), if_neg (by show ¬ 60000 < 0 + l.length; omega)]
  rfl
/-- What was read may be. -/
structure FineR (r : Rd) : Prop where
  lines : ∀ x ∈ r.lines, fineL x
  len : r.lines.length = min r.count 60000
theorem fine0 : FineR rd0 := ⟨fun _x hx => absurd hx List.not_mem_nil, rfl⟩
theorem FineR.congr {r q : Rd} (h : FineR r) (h1 : q.lines = r.lines) (h2 : q.count = r.count) : FineR q := ⟨by rw [h1]; exact h.lines, by rw [h1, h2]; exact h.len⟩
theorem endW_lines (r : Rd) : (endW r).lines = r.lines ∧ (endW r).count = r.count := by unfold endW; cases r.cur <;> exact ⟨rfl, rfl⟩
theorem FineR.endL {r : Rd} (h : FineR r) : FineR (endL r) := by
  unfold Lists.endL
  split
  · exact h.congr rfl rfl
  · split
    · exact h.congr rfl rfl
    · rename_i x hx
      have hf : fineL x := ⟨(line_some hx).1, line_n hx⟩
      refine ⟨fun y hy => ?_, ?_⟩
      · by_cases hc : r.count + 1 ≤ 60000
        · simp only [nextL, if_pos hc, List.mem_append, List.mem_singleton] at hy
          rcases hy with hy | rfl
          · exact h.lines y hy
          · exact hf
        · simp only [nextL, if_neg hc] at hy
          exact h.lines y hy
      · have := h.len
        by_cases hc : r.count + 1 ≤ 60000
        · simp only [nextL, if_pos hc, List.length_append, List.length_singleton]; omega
        · simp only [nextL, if_neg hc]; omega
theorem FineR.step {r : Rd} (h : FineR r) (b : UInt8) : FineR (stepR r b) := by
  unfold stepR
  split
  · exact h
  · unfold takeB
    split
    · exact (h.congr (endW_lines r).1 (endW_lines r).2).endL
    · split
      · exact h.congr (endW_lines r).1 (endW_lines r).2
      · unfold otherB
        split
        · split <;> exact h.congr rfl rfl
        · exact h.congr rfl rfl
theorem FineR.read {r : Rd} (h : FineR r) (s : List UInt8) : FineR (readR s r) := by
  induction s generalizing r with
  | nil => exact h
  | cons b t ih => exact ih (h.step b)
theorem parse_fine {s : List UInt8} {l : List PL} {n : Int} (h : parseP s = (l, n, 0)) : (∀ x ∈ l, fineL x) ∧ l.length ≤ 60000 ∧ n = 0 := by
  have hf := fine0.read (s ++ [10])
  unfold parseP at h
  split at h
  · injection h with _ h; injection h with _ h; exact absurd h (by decide)
  · split at h
    · injection h with _ h; injection h with _ h; exact absurd h (by decide)
    · injection h with h1 h; injection h with h2 _
      subst h1
      refine ⟨hf.lines, ?_, h2.symm⟩
      have := hf.len
      unfold parseRd
      omega
theorem parse_bad {s : List UInt8} {l : List PL} {n e : Int} (h : parseP s = (l, n, e)) (he : e ≠ 0) : l = [] ∧ 0 ≤ n := by
  unfold parseP at h
  split at h
  · injection h with h1 h; injection h with h2 h; exact ⟨h1.symm, by omega⟩
  · split at h
    · injection h with h1 h; injection h with h2 h; exact ⟨h1.symm, by omega⟩
    · injection h with h1 h; injection h with h2 h; exact absurd h.symm he
end Go.Proofs.YthojmbljlehpbaaGreatDoor.Lists
