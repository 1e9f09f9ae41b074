/- What Live tells, as it lies. No condition. -/
import Derived.Test.YtcijaaiopfbffaaDoorLK
import Derived.Test.YtcijaaiopfbffaaDoorZY
import Derived.Test.YtcijaaiopfbffaaDoorZW
import Derived.Test.YtcijaaiopfbffaaDoorYu
namespace Go.Proofs.YtcijaaiopfbffaaDoor.Live
open Go.RowKit Go.Proofs.YtcijaaiopfbffaaDoor.Graph Go.Shelf

theorem AhSt.congr {B ab n : Nat} {A A' : Nat → List Nat} {vs : Nat → Value} {w : World} (h : AhSt B ab n A vs w) (he : ∀ b, b < n → A b = A' b) : AhSt B ab n A' vs w :=
  ⟨h.blk, fun b hb => by rw [← he b hb]; exact h.rows b hb, h.apart⟩
/-- A row is put in. -/
theorem AhSt.put {B ab n t : Nat} {A : Nat → List Nat} {vs : Nat → Value} {w w1 : World} {v' : Value} {l : List Nat} (h : AhSt B ab n A vs w) (hab : ab < B) (ht : t < n) (hb : Below w.heap.size w w1) (hB : B ≤ w.heap.size) (hr : w1.ownsRow w.heap.size 3 1 v' l.length (l.map iN)) :
    AhSt B ab n (fun b => if b = t then l else A b) (fun b => if b = t then v' else vs b) (w1.setCell ⟨ab, t, none⟩ v') := by
  obtain ⟨cs, h1, h2, h3⟩ := h.blk
  have h4 : w1.heap[ab]? = some (.cells cs 22 (0, 0)) := (hb.block _ h.lt).trans h1
  have hr2 : w1.ownsRow B 3 1 v' l.length (l.map iN) := by
    obtain ⟨h5, h6 | ⟨g, cap, cur, h6, h7, h8⟩⟩ := hr
    · exact ⟨h5, .inl h6⟩
    · exact ⟨h5, .inr ⟨g, cap, cur, h6, Nat.le_trans hB h7, h8⟩⟩
  refine ⟨⟨_, heap_setCell_same w1 ab _ _ _ _ h4, by simpa using h2, fun b hb => ?_⟩, fun b hb2 => ?_, fun b c q hb2 hc hne hq => ?_⟩
  · have h5 := h3 b hb
    by_cases e : b = t
    · subst e
      rw [Array.getElem?_setIfInBounds_self_of_lt (Array.getElem?_eq_some_iff.1 h5).1, if_pos rfl]
    · rw [Array.getElem?_setIfInBounds_ne (Ne.symm e), if_neg e]; exact h5
  · by_cases e : b = t
    · subst e
      simp only [if_true]
      exact own_set hr2 hab _ _
    · simp only [if_neg e]
      exact own_set (own_below (h.rows b hb2) hb) hab _ _
  · have hlt : ∀ c q, c < n → (vs c).ownBlock = some q → q < w.heap.size := fun c q hc hq => ((h.rows c hc).lt q hq).2
    by_cases e : b = t
    · subst e
      have ec : c ≠ b := Ne.symm hne
      simp only [if_true] at hq
      simp only [if_neg ec]
      intro e2
      have := (hr.lt q hq).1
      have := hlt c q hc e2
      omega
    · simp only [if_neg e] at hq
      by_cases ec : c = t
      · subst ec
        simp only [if_true]
        intro e2
        have := (hr.lt q e2).1
        have := hlt b q hb2 hq
        omega
      · simp only [if_neg ec]
        exact h.apart b c q hb2 hc hne hq
theorem tab_below {t : List Nat} {w w' : World} (h : TabAt 0 t w) (h0 : 0 < w.heap.size) (hb : Below w.heap.size w w') : TabAt 0 t w' := fun j hj => (hb.cell (p := ⟨0, j, none⟩) h0).trans (h j hj)
/-- The rows that Live tells: whose they are, what they hold. -/
structure LiveOut (x : PGr) (n rb : Nat) (vs : Nat → Value) (w w' : World) : Prop where
  ah : AhSt (rb + 1) rb n (needN x) vs w'
  new : w.heap.size ≤ rb
  below : Below w.heap.size w w'
def LiveOk (x : PGr) (n : Nat) (w : World) (e : Ending) (w' : World) : Prop := ∃ rb vs, e = .returned (.tuple #[.slice (some ⟨rb, 0, none⟩) n n, .int .i64 0]) ∧ LiveOut x n rb vs w w'
theorem needed_at {x : PGr} {n lb ub db ab : Nat} {L : Nat → Look} {A : Nat → List Nat} {w w' W : World} (hn : n = x.blocks.length) (hf : fitsB x = true) (h : LookPostG x n lb ub db ab L A w w') (hW : Below w'.heap.size w' W) :
    Calls Tryd.prog 32 #[.pointer (some ⟨lb, 0, none⟩), .int .i64 x.temps] W (NeededPost x n W) := by
  have hfd := hf
  unfold fitsB at hfd
  rw [Bool.and_eq_true] at hfd
  have hlen := of_decide_eq_true hfd.1
  refine needed_any (w0 := w') hf (fun wd => ?_) h.ah hW (h.lk.keep hW) (by omega) (by omega)
  have := look_fx hf wd (U := fun b => (L b).u wd) (S := fun b => (L b).d wd) (A := A) (fun b blk hb => by show (L b).u wd = _; rw [h.looks.1 b blk hb]) (fun b blk hb => by show (L b).d wd = _; rw [h.looks.1 b blk hb])
    (fun b hb => by show (L b).u wd = 0; rw [h.looks.2.1 b (by omega)]; rfl) (fun b hb => by show (L b).d wd = 0; rw [h.looks.2.1 b (by omega)]; rfl)
    (fun b hb c => by
      rw [h.upto.2 b c]
      refine ⟨fun h2 => h2.2, fun ⟨t, h1, h2⟩ => ⟨by have := (List.getElem?_eq_some_iff.1 h1).1; omega, t, h1, h2⟩⟩)
  rw [← hn] at this
  exact this
theorem need_total {x : PGr} {n fo : Nat} {V : Nat → Nat → Nat} {w : World} (h : SetsAt w fo n V) (hq : ∀ b wd, b < n → wd < 125 → V b wd < w64 ∧ ∀ i, i < 64 → ((V b wd).testBit i = true ↔ Need x b ((64 * wd + i : Nat) : Int))) :
    ∃ V', SetsAt w fo n V' ∧ (∀ b, b < n → ∀ wd i, wd < 125 → i < 64 → ((V' b wd).testBit i = true ↔ Need x b ((64 * wd + i : Nat) : Int))) ∧ ∀ b, b < n → ∀ u, V' b u < w64 := by
  refine ⟨fun b u => if u < 125 then V b u else 0, h.congr fun b k _ hk => by simp only [hk, if_true], fun b hb wd i hwd hi => ?_, fun b hb u => ?_⟩
  · simp only [hwd, if_true]; exact (hq b wd hb hwd).2 i hi
  · show (if u < 125 then V b u else 0) < w64
    by_cases hu : u < 125
    · rw [if_pos hu]; exact (hq b u hb hu).1
    · rw [if_neg hu]; decide
end Go.Proofs.YtcijaaiopfbffaaDoor.Live
namespace Go.Proofs.YtcijaaiopfbffaaDoor.Live
open Go.RowKit Go.Proofs.YtcijaaiopfbffaaDoor.Graph Go.Shelf

set_option maxHeartbeats 8000000 in
set_option maxRecDepth 100000 in
theorem live_no (x : PGr) (vp va vb : Value) (w : World) (h : GrL w vp va vb x) (hs : SmN x) (hf : fitsB x = false) :
    Calls Tryd.prog 10 #[grV x vp va vb] w fun e w' => e = .returned (.tuple #[.slice none 0 0, .int .i64 1]) ∧ Below w.heap.size w w' := by
  obtain ⟨pp, pc, rfl⟩ := h.params.form
  obtain ⟨ap, ac, rfl⟩ := h.arrays.form
  have HG := Lib.hid h
  obtain ⟨bp, bc, rfl⟩ := h.blocks.form
  have HF := Lib.hid (fun (W : World) (hW : Below w.heap.size w W) => fits_any x _ _ _ W (HG.out.below hW) hs)
  rw [hf] at HF
  unfold grV at HF ⊢
  clear h hs hf
  go_enter Tryd.func10, Tryd.ntmps10
  go_wp2_with (
    go_at_call 30
    refine (HF.out _ (Graph.below_alloc w _)).mono ?_
    rintro e w2 ⟨rfl, hb⟩
    have HB := Lib.hid hb
    clear hb)
  go_ret2
  exact ⟨rfl, below_then (Graph.below_alloc w _) HB.out⟩
set_option maxHeartbeats 8000000 in
set_option maxRecDepth 100000 in
theorem live_ok (x : PGr) (vp va vb : Value) (w : World) (h : GrL w vp va vb x) (hs : SmN x) (hf : fitsB x = true) (hT : TabAt 0 Lib.deBruijn64tab w) (h0 : 0 < w.heap.size) :
    Calls Tryd.prog 10 #[grV x vp va vb] w (LiveOk x x.blocks.length w) := by
  obtain ⟨pp, pc, rfl⟩ := h.params.form
  obtain ⟨ap, ac, rfl⟩ := h.arrays.form
  have HG := Lib.hid h
  obtain ⟨bp, bc, rfl⟩ := h.blocks.form
  have hfd := hf
  unfold fitsB at hfd
  rw [Bool.and_eq_true] at hfd
  have hlen := of_decide_eq_true hfd.1
  have HF := Lib.hid (fun (W : World) (hW : Below w.heap.size w W) => fits_any x _ _ _ W (HG.out.below hW) hs)
  have HLA := Lib.hid (fun (W : World) (hW : Below w.heap.size w W) => lookAt_any x _ _ _ W (HG.out.below hW) hs hf (by omega))
  rw [hf] at HF
  unfold grV at HF HLA ⊢
  obtain ⟨n, hnn⟩ : ∃ n, n = x.blocks.length := ⟨_, rfl⟩
  have HN := Lib.hid hnn
  have HFT := Lib.hid hf
  rw [← hnn] at HF HLA ⊢
  have hn : n ≤ 20000 := by omega
  have ni : (n : Int) ≤ 20000 := by omega
  have HTB := Lib.hid (fun (W : World) (hW : Below w.heap.size w W) => tab_below hT h0 hW)
  have H0 := Lib.hid h0
  have HML := Lib.hid (fun W => make_lists n hn W)
  clear h hs hf hnn hlen hfd hT h0
  go_enter Tryd.func10, Tryd.ntmps10
  go_upto_region 3 with (
    go_at_call 30
    refine (HF.out _ (Graph.below_alloc w _)).mono ?_
    rintro e w2 ⟨rfl, hb⟩
    have HB := Lib.hid hb
    clear hb)
  obtain ⟨W1, hW1⟩ : ∃ W1, W1 = w.alloc (.cells #[.slice pp x.params.length pc, .int .i64 x.temps, .slice ap x.arrays.length ac, .slice bp n bc] 26) := ⟨_, rfl⟩
  have hx1 : W1.heap[w.heap.size]? = some (.cells #[.slice pp x.params.length pc, .int .i64 x.temps, .slice ap x.arrays.length ac, .slice bp n bc] 26 (0, 0)) := by rw [hW1]; exact heap_new w _
  rw [← hW1] at HB
  have hlt1 : w.heap.size < W1.heap.size := (Array.getElem?_eq_some_iff.1 hx1).1
  have HBX : Hid (∀ W : World, Below W1.heap.size W1 W → W.cell? ⟨w.heap.size, 0, none⟩ = some (.slice pp x.params.length pc) ∧ W.cell? ⟨w.heap.size, 1, none⟩ = some (.int .i64 x.temps) ∧ W.cell? ⟨w.heap.size, 2, none⟩ = some (.slice ap x.arrays.length ac) ∧ W.cell? ⟨w.heap.size, 3, none⟩ = some (.slice bp n bc)) := Lib.hid (fun W hW => by
    have hb := (hW.block _ hlt1).trans hx1
    exact ⟨(cell_of_block hb (k := 0) rfl).1, (cell_of_block hb (k := 1) rfl).1, (cell_of_block hb (k := 2) rfl).1, (cell_of_block hb (k := 3) rfl).1⟩)
  have HW1 : Hid (Below w.heap.size w W1) := Lib.hid (by rw [hW1]; exact Graph.below_alloc w _)
  clear hW1 hx1 hlt1
  obtain ⟨y0, y1, y2, y3⟩ := HBX.out w2 HB.out
  go_cut [4] from 10 to 14 (fun v wq => ∃ fo V, v = .slice (some ⟨fo, 0, none⟩) n n ∧ Hid (SetsAt wq fo n V) ∧ Hid ((∀ b, b < n → ∀ wd i, wd < 125 → i < 64 → ((V b wd).testBit i = true ↔ Need x b ((64 * wd + i : Nat) : Int))) ∧ ∀ b, b < n → ∀ u, V b u < w64) ∧ Hid (Below w.heap.size w wq))
  case first =>
    go_region_held3 (fun W => W.cell? ⟨w.heap.size, 0, none⟩ = some (.slice pp x.params.length pc) ∧ W.cell? ⟨w.heap.size, 1, none⟩ = some (.int .i64 x.temps) ∧ W.cell? ⟨w.heap.size, 2, none⟩ = some (.slice ap x.arrays.length ac) ∧ W.cell? ⟨w.heap.size, 3, none⟩ = some (.slice bp n bc)) (go_keep) (first
      | (go_at_call 31
         refine (HLA.out _ (below_then HW1.out HB.out).drew).mono ?_
         rintro e w3 ⟨lb, ub, db, ab, L, A, rfl, hp⟩
         have HP := Lib.hid hp
         have HB3 : Hid (Below W1.heap.size W1 w3) := Lib.hid (below_then HB.out.drew hp.below)
         obtain ⟨z0, z1, z2, z3⟩ := HBX.out w3 HB3.out
         clear hp)
      | (go_at_call 32
         refine (needed_at HN.out HFT.out HP.out (Below.refl _ _)).mono ?_
         rintro e w5 ⟨fo, V0, rfl, hv0, hq0, hb5⟩
         obtain ⟨V, hv, hq⟩ := need_total hv0 hq0
         have HV := Lib.hid hv
         have HQ := Lib.hid hq
         have HB5 : Hid (Below W1.heap.size W1 w5) := Lib.hid (below_then HB3.out hb5)
         obtain ⟨x0, x1, x2, x3⟩ := HBX.out w5 HB5.out
         clear hv hq hb5 hv0 hq0))
    all_goals
      go_wp2
      go_meet
      exact ⟨_, _, rfl, HV, HQ, Lib.hid (below_then HW1.out HB5.out)⟩
  case rest =>
    obtain ⟨fo, V, rfl, HV, HQ, HBC⟩ := hcut
    clear HBX HB HW1 HF HLA y0 y1 y2 y3
    have hml := HML.out wc
    have HR0 : Hid (AhSt (wc.heap.size + 1) wc.heap.size n (fun b => if b < 0 then needN x b else []) (fun _ => .slice none 0 0) (wc.alloc (.cells (madeCells #[.slice none 0 0] n) 22))) := Lib.hid ((AhSt.made (heap_new wc _)).congr fun b _ => by rw [if_neg (by omega)])
    have HV1 : Hid (SetsAt (wc.alloc (.cells (madeCells #[.slice none 0 0] n) 22)) fo n V) := Lib.hid (HV.out.keep ((Graph.below_alloc wc _).block _ HV.out.lt))
    have HB1 : Hid (Below wc.heap.size wc (wc.alloc (.cells (madeCells #[.slice none 0 0] n) 22))) := Lib.hid (Graph.below_alloc wc _)
    have HZ1 : Hid (wc.heap.size + 1 ≤ (wc.alloc (.cells (madeCells #[.slice none 0 0] n) 22)).heap.size ∧ fo < wc.heap.size) := Lib.hid ⟨by simp, HV.out.lt⟩
    go_wp2
    generalize (wc.alloc (.cells (madeCells #[.slice none 0 0] n) 22)) = wm at *
    clear hml
    go_loopw [20] (fun i wr => ∃ (k : Nat) (vs : Nat → Value), k ≤ n ∧ i = .int .i64 k ∧ Hid (AhSt (wc.heap.size + 1) wc.heap.size n (fun b => if b < k then needN x b else []) vs wr) ∧ Hid (SetsAt wr fo n V) ∧ Hid (Below wc.heap.size wc wr) ∧ Hid (wc.heap.size + 1 ≤ wr.heap.size)) (fun i _ => n - (intOf i).toNat)
    case atStart => exact ⟨0, _, Nat.zero_le _, rfl, HR0, HV1, HB1, Lib.hid HZ1.out.1⟩
    case round =>
      obtain ⟨k, vs, hk, rfl, HR, HV2, HB2, HZ2⟩ := hrel
      by_cases hkn : k < n
      · have ki : (k : Int) < n := by omega
        have k0 : (0 : Int) ≤ k := by omega
        have HBW : Hid (Below w.heap.size w wr) := Lib.hid (below_then HBC.out HB2.out)
        have HLI := Lib.hid (list_any HV2.out hkn hn (HQ.out.2 k hkn) (HTB.out _ HBW.out) (Nat.lt_of_lt_of_le H0.out HBW.out.size))
        have HAN := Lib.hid (all_need HFT.out (b := k) (U := V k) (HQ.out.1 k hkn))
        rw [HAN.out] at HLI
        go_wp2_with (
          go_at_call 33
          refine HLI.out.mono ?_
          rintro e w5 ⟨v5, rfl, h5, hb5⟩
          obtain ⟨p5, c6, rfl, _⟩ := own_form h5
          have H5 := Lib.hid h5
          have HB5 := Lib.hid hb5
          have c5 := (hb5.cell (p := ⟨wc.heap.size, k, none⟩) HR.out.lt).trans (HR.out.cell hkn).1
          have f5 : w5.frozen? ⟨wc.heap.size, k, none⟩ = false := by
            have h := (HR.out.cell hkn).2
            unfold World.frozen? at h ⊢
            rw [hb5.block wc.heap.size HR.out.lt]; exact h
          clear h5 hb5)
        exact ⟨⟨k + 1, _, by omega, by go_num, Lib.hid ((HR.out.put (by omega) hkn HB5.out HZ2.out H5.out).congr fun b _ => by
            by_cases e : b = k
            · rw [if_pos e, if_pos (by omega), e]
            · rw [if_neg e]
              by_cases e2 : b < k
              · rw [if_pos e2, if_pos (by omega)]
              · rw [if_neg e2, if_neg (by omega)]), Lib.hid (HV2.out.keep (((heap_setCell_other w5 ⟨wc.heap.size, k, none⟩ fo _ (Nat.ne_of_lt HZ1.out.2))).trans (HB5.out.block _ HV2.out.lt))), Lib.hid (by
            have hb := below_then HB2.out HB5.out
            refine ⟨hb.os, hb.tape, hb.output, by rw [World.size_setCell]; exact hb.size, fun i hi => (heap_setCell_other w5 ⟨wc.heap.size, k, none⟩ i _ (Nat.ne_of_lt hi)).trans (hb.block i hi)⟩), Lib.hid (by rw [World.size_setCell]; have := HB5.out.size; have := HZ2.out; omega)⟩, by simp [intOf]; omega⟩
      · have hkn2 : k = n := by omega
        have k5 : ¬ ((k : Int) < n) := by omega
        go_wp2
        go_ret2
        refine ⟨wc.heap.size, vs, rfl, HR.out.congr fun b hb => by rw [if_pos (by omega)], HBC.out.size, below_then HBC.out HB2.out⟩
end Go.Proofs.YtcijaaiopfbffaaDoor.Live
namespace Go.Proofs.YtcijaaiopfbffaaDoor.Live
open Go.RowKit Go.Proofs.YtcijaaiopfbffaaDoor.Graph

theorem run_append_nil0 {P : Program} (w : World) (t e ty : TypeId) (size : Nat) (hu : P.underlying t = some (.slice e)) (hs : (P.info? e).map (·.size) = some size) (c : Nat) (p : Option Addr) :
    (Builtin.append_ #[t, t] ty #[.slice none 0 0, .slice p 0 c]).run P w = .ok (.slice none 0 0) w := by
  cases hq : P.info? e with
  | none => simp [hq] at hs
  | some i =>
    have hl : ∀ (x : Addr), (loadCells x 0).run P w = .ok #[] w := fun x => by simpa using run_loadCells_list (P := P) w x [] (by simp)
    cases p <;> simp [Builtin.append_, run_underlying hu, Builtin.lenOf, Builtin.firstCells, sizeOf, typeInfo, hq, hl]
theorem wpList_append_nil0 {P : Program} {w : World} {ops : Array Oper} {rest : List Oper} {o : Oper} {a : Act} {Q : Exit → Act → World → Prop} (hgd : o.guard = none) (d s : Operand) (t : TypeId)
    (ho : o.op = .call { callee := .builtin .append, args := #[d, s], argTypes := #[t, t] }) (e : TypeId) (size : Nat) (hu : P.underlying t = some (.slice e)) (hs : (P.info? e).map (·.size) = some size)
    (c : Nat) (p : Option Addr) (hd : a.eval d = .slice none 0 0) (hx : a.eval s = .slice p 0 c)
    (h : wpList P ops Q rest (a.put o.dst (.slice none 0 0)) w) : wpList P ops Q (o :: rest) a w := by
  refine wpList_plain hgd fun K hK => ?_
  have hrun := run_append_nil0 (P := P) w t e o.type size hu hs c p
  unfold Oper.wp
  simp [execOp, ho, resolve, invoke, builtin, hd, hx, hrun, Result.andThen]
  exact hK _ _ h
/-- The cell of a list. -/
theorem ints_cell {w : World} {v : Value} {l : List Int} (h : IntsR w v l) {k : Nat} {x : Int} (hk : l[k]? = some x) : ∃ g o c, v = .slice (some ⟨g, o, none⟩) l.length c ∧ w.cell? ⟨g, o + k, none⟩ = some (.int .i64 x) ∧ g < w.heap.size ∧ l.length ≤ c ∧ c ≤ 9223372036854775807 := by
  have hlt := (List.getElem?_eq_some_iff.1 hk).1
  obtain ⟨g, o, c, hv, hcap, hgl, hP⟩ := SlR.form2 h (by omega)
  have := hP k hlt x hk
  rw [Nat.mul_one] at this
  exact ⟨g, o, c, hv, this, hgl, hcap.1, by have := hcap.2; omega⟩
set_option maxHeartbeats 4000000 in
set_option maxRecDepth 100000 in
theorem inList_any (l : List Int) (v : Value) (t : Int) (w : World) (h : IntsR w v l) :
    Calls Tryd.prog 16 #[v, .int .i64 t] w fun e w' => e = .returned (.bool (decide (t ∈ l))) ∧ w' = w := by
  obtain ⟨p, c, rfl⟩ := h.form
  have HL := Lib.hid h
  obtain ⟨n, hn⟩ : ∃ n, n = l.length := ⟨_, rfl⟩
  have HN := Lib.hid hn
  rw [← hn]
  clear h hn
  go_enter Tryd.func16, Tryd.ntmps16
  go_wp2
  go_loopw [5] (fun i wr => ∃ k : Nat, k ≤ n ∧ i = .int .i64 k ∧ wr = w ∧ Hid (∀ j x, j < k → l[j]? = some x → x ≠ t)) (fun i _ => n - (intOf i).toNat)
  case atStart => exact ⟨0, Nat.zero_le _, rfl, rfl, Lib.hid (fun j x hj => absurd hj (Nat.not_lt_zero _))⟩
  case round =>
    obtain ⟨k, hk, rfl, rfl, HA⟩ := hrel
    by_cases hkn : k < n
    · obtain ⟨x, hx⟩ : ∃ x, l[k]? = some x := ⟨_, List.getElem?_eq_getElem (by have := HN.out; omega)⟩
      obtain ⟨g, o, c', hv, hc, hg, hc1, hc2⟩ := ints_cell HL.out hx
      rw [← HN.out] at hv hc1
      injection hv with e1 _ e3
      subst e1 e3
      have ki : (k : Int) < n := by omega
      have k0 : (0 : Int) ≤ k := by omega
      have k2 : (n : Int) ≤ c := by omega
      have k3 : (c : Int) ≤ 9223372036854775807 := by omega
      have HX := Lib.hid hx
      clear hx hc1 hc2
      by_cases hxt : x = t
      · have hd : Hid (decide (t ∈ l) = true) := Lib.hid (decide_eq_true (by rw [← hxt]; exact List.mem_of_getElem? HX.out))
        have he : (x == t) = true := by simpa using hxt
        clear hxt
        go_wp2
        go_ret
        exact ⟨by rw [hd.out]; rfl, rfl⟩
      · have he : (x == t) = false := by simpa using hxt
        have HXT := Lib.hid hxt
        clear hxt
        go_wp2
        exact ⟨⟨k + 1, by omega, by go_num, (by first | trivial | rfl), Lib.hid (fun j y hj hy => by
          by_cases e : j = k
          · subst e
            rw [HX.out] at hy
            injection hy with hy
            rw [← hy]; exact HXT.out
          · exact HA.out j y (by omega) hy)⟩, by simp [intOf]; omega⟩
    · have hkn2 : k = n := by omega
      have hki : ¬ ((k : Int) < n) := by omega
      have hd : Hid (decide (t ∈ l) = false) := Lib.hid (decide_eq_false (fun hm => by
        obtain ⟨j, hj, e⟩ := List.mem_iff_getElem.1 hm
        exact HA.out j t (by have := HN.out; omega) (by rw [List.getElem?_eq_getElem hj, e]) rfl))
      go_wp2
      go_ret
      exact ⟨by rw [hd.out]; rfl, rfl⟩
set_option maxHeartbeats 4000000 in
set_option maxRecDepth 100000 in
theorem uses_call (x : PIns) (va vr : Value) (w : World) (h : InsL w va vr x) (h8 : kindI x.op = 8) (hb : x.args.length * 8 ≤ 140737488355328) :
    Calls Tryd.prog 35 #[insV x va vr] w (RetI x.args w) := by
  have HA := Lib.hid h.args
  obtain ⟨ap, ac, rfl⟩ := h.args.form
  obtain ⟨rp, rc, rfl⟩ := h.arrs.form
  have HK : Hid (∀ w, Calls Tryd.prog 60 #[.int .i64 x.op] w fun e w' => e = .returned (.int .i64 8) ∧ w' = w) := Lib.hid (fun w => by have := kind_any x.op w; rwa [h8] at this)
  unfold insV
  rcases Nat.eq_zero_or_pos x.args.length with h0 | h0
  · have HE : Hid (∀ w' : World, IntsR w' (.slice none 0 0) x.args) := Lib.hid (fun w' => .inl ⟨h0, _, _, rfl⟩)
    rw [h0]
    clear h h8 hb h0
    go_enter Tryd.func35, Tryd.ntmps35
    go_wp2_with (first
      | (go_at_call 60; refine (HK.out _).mono ?_; rintro e w2 ⟨rfl, h2⟩; subst h2)
      | (at_builtin
         refine wpList_append_nil0 (by rfl) _ _ 22 (by rfl) 3 1 Tryd.underlying22 (by kernel_rfl) ac ap (by rfl) (by rfl) ?_))
    go_ret
    exact ⟨_, _, _, rfl, HE.out _, below_alloc w _⟩
  · obtain ⟨g, o, c', hv, hcap, hgl, _⟩ := SlR.form2 HA.out h0
    injection hv with hv _ hce
    subst hv hce
    have HNW : Hid (∀ w2, Below w.heap.size w w2 → ∀ j u, (x.args.map iv)[j]? = some u → w2.cell? ((⟨g, o, none⟩ : Addr).add j) = some u) := Lib.hid (fun w2 h2 => news_many HA.out h2)
    obtain ⟨i0, hi, hz0, hz1, hz2⟩ := info_parts info_int
    have HI := Lib.hid hi
    obtain ⟨n, hn⟩ : ∃ n, n = x.args.length := ⟨_, rfl⟩
    have HN := Lib.hid hn
    rw [← hn] at hb h0 ⊢
    clear h h8 hi hn hcap hgl
    go_enter Tryd.func35, Tryd.ntmps35
    go_wp2_with (first
      | (go_at_call 60; refine (HK.out _).mono ?_; rintro e w2 ⟨rfl, h2⟩; subst h2)
      | (at_builtin
         go_loud (refine wpList_append_lies _ (by rfl) _ _ 22 (by rfl) w.heap.size 3 i0 _ 1 8 Tryd.underlying22 HI.out hz0 hz1 hz2 rfl (by omega) _ 0 _ (by rfl) (World.ownsRow_nil _ _ _ _) ⟨g, o, none⟩ n ac (x.args.map iv) (by rfl) (by rw [List.length_map, HN.out, Nat.mul_one]) (HNW.out _ (below_alloc w _)) mem_iv h0 (by unfold maxLen; omega) (by omega) (by simp) _ rfl ?_)
         intro g5 c5 w5 h5 h6 h7 h8
         have H5 := Lib.hid h5
         have H6 : Hid (Below w.heap.size w w5) := Lib.hid (Below.grown (below_alloc w _) h6 (by simp) (fun q hq => by cases hq))
         clear h5 h6 h7 h8))
    go_ret
    have hnn := HN.out
    subst hnn
    have h5 := H5.out
    rw [Nat.zero_add, List.nil_append] at h5
    exact ⟨_, _, _, rfl, ints_of_own h5, H6.out⟩
/-- What may be of an instruction, here: its number. -/
theorem uses_same {x : PIns} (h : 1 ≤ x.op ∧ x.op ≤ 32) (h8 : kindI x.op ≠ 8) : usesL x = usesI x := by
  unfold usesL usesI kindI at *
  (repeat' split at h8) <;> (repeat' split) <;> first | rfl | omega
theorem uses_same8 {x : PIns} (_h : 1 ≤ x.op ∧ x.op ≤ 32) (h8 : kindI x.op = 8) : x.args = usesI x := by
  have : x.op = 29 := by unfold kindI at h8; (repeat' split at h8) <;> omega
  unfold usesI; rw [if_pos this]
theorem sets_same {x : PIns} (h : 1 ≤ x.op ∧ x.op ≤ 32) {t : Int} (ht : 0 ≤ t) : (setsI x = t) ↔ (setsT x = true ∧ x.d = t) := by
  unfold setsI setsT kindI
  (repeat' split) <;> simp <;> omega
theorem endUses_same {e : PEnd} (h : 1 ≤ e.kind ∧ e.kind ≤ 5) : endUsesL e = usesE e := by
  unfold endUsesL usesE
  (repeat' split) <;> first | rfl | omega | simp_all
theorem usesI_any (x : PIns) (va vr : Value) (w : World) (h : InsL w va vr x) (ho : 1 ≤ x.op ∧ x.op ≤ 32) (hb : x.args.length * 8 ≤ 140737488355328) :
    Calls Tryd.prog 35 #[insV x va vr] w (RetI (usesI x) w) := by
  by_cases h8 : kindI x.op = 8
  · rw [← uses_same8 ho h8]; exact uses_call x va vr w h h8 hb
  · rw [← uses_same ho h8]; exact uses_any x va vr w h h8
end Go.Proofs.YtcijaaiopfbffaaDoor.Live
namespace Go.Proofs.YtcijaaiopfbffaaDoor.Live
open Go.RowKit Go.Proofs.YtcijaaiopfbffaaDoor.Graph

def blkV (x : PBlk) (vk vc vt : Value) : Value := .agg #[vk, .int .i64 x.fin.kind, .int .i64 x.fin.op, .int .i64 x.fin.a, .int .i64 x.fin.b, .int .u32 x.fin.n, .int .i64 x.fin.to, .int .i64 x.fin.els, vc, vt]
theorem ins_op {m : Int} {x : PIns} (h : insFit m x = true) : 1 ≤ x.op ∧ x.op ≤ 32 := by
  unfold insFit at h
  simp only [Bool.and_eq_true, decide_eq_true_eq] at h
  exact ⟨h.1.1.1, h.1.1.2⟩
theorem end_kind {m : Int} {x : PBlk} (h : blkFit m x = true) : 1 ≤ x.fin.kind ∧ x.fin.kind ≤ 5 := by
  unfold blkFit endFit at h
  simp only [Bool.and_eq_true, decide_eq_true_eq] at h
  exact ⟨h.2.1.1, h.2.1.2⟩
theorem first_drop {e : PEnd} {t : Int} {l : List PIns} {k : Nat} {x : PIns} (hx : l[k]? = some x) : firstC e t (l.drop k) = if t ∈ usesI x then 1 else if setsT x = true ∧ x.d = t then 2 else firstC e t (l.drop (k + 1)) := by
  obtain ⟨hk, rfl⟩ := List.getElem?_eq_some_iff.1 hx
  rw [List.drop_eq_getElem_cons hk]; rfl
set_option maxHeartbeats 8000000 in
set_option maxRecDepth 100000 in
theorem first_any (x : PBlk) (m : Int) (vk vc vt : Value) (t : Int) (ht : 0 ≤ t) (w : World) (hf : blkFit m x = true) (hs : SmB x) (hc : CodeR w vk x.code) (he : EndL w vc vt x.fin) :
    Calls Tryd.prog 14 #[blkV x vk vc vt, .int .i64 t] w (Is (.int .i64 (firstB x t : Nat)) w) := by
  obtain ⟨kp, kc, rfl⟩ := hc.form
  obtain ⟨cp, cc, rfl⟩ := he.cases.form
  obtain ⟨tp, tc, rfl⟩ := he.targets.form
  have HC := Lib.hid hc
  have HF := Lib.hid hf
  have HS := Lib.hid hs
  have hKK := end_kind hf
  have HEU := Lib.hid (fun (w : World) => endUses_any x.fin cp tp x.fin.cases.length cc x.fin.targets.length tc w)
  rw [endUses_same hKK] at HEU
  have HT := Lib.hid ht
  obtain ⟨n, hn⟩ : ∃ n, n = x.code.length := ⟨_, rfl⟩
  have HN := Lib.hid hn
  unfold blkV
  rw [← hn]
  generalize x.fin.cases.length = cl at *
  generalize x.fin.targets.length = tl' at *
  clear hc he hf hs hn hKK ht
  go_enter Tryd.func14, Tryd.ntmps14
  go_wp2
  have HX1 : Hid ((w.alloc (.cells #[.slice kp n kc, .int .i64 x.fin.kind, .int .i64 x.fin.op, .int .i64 x.fin.a, .int .i64 x.fin.b, .int .u32 x.fin.n, .int .i64 x.fin.to, .int .i64 x.fin.els, .slice cp cl cc, .slice tp tl' tc] 42)).heap[w.heap.size]? = some (.cells #[.slice kp n kc, .int .i64 x.fin.kind, .int .i64 x.fin.op, .int .i64 x.fin.a, .int .i64 x.fin.b, .int .u32 x.fin.n, .int .i64 x.fin.to, .int .i64 x.fin.els, .slice cp cl cc, .slice tp tl' tc] 42 (0, 0))) := Lib.hid (heap_new w _)
  have HB1 := Lib.hid (Graph.below_alloc w (.cells #[.slice kp n kc, .int .i64 x.fin.kind, .int .i64 x.fin.op, .int .i64 x.fin.a, .int .i64 x.fin.b, .int .u32 x.fin.n, .int .i64 x.fin.to, .int .i64 x.fin.els, .slice cp cl cc, .slice tp tl' tc] 42))
  generalize w.alloc (.cells #[.slice kp n kc, .int .i64 x.fin.kind, .int .i64 x.fin.op, .int .i64 x.fin.a, .int .i64 x.fin.b, .int .u32 x.fin.n, .int .i64 x.fin.to, .int .i64 x.fin.els, .slice cp cl cc, .slice tp tl' tc] 42) = w1 at HX1 HB1 ⊢
  have HLT : Hid (w.heap.size < w1.heap.size) := Lib.hid (Array.getElem?_eq_some_iff.1 HX1.out).1
  have HCE : Hid (∀ W : World, Below w1.heap.size w1 W → W.cell? ⟨w.heap.size, 0, none⟩ = some (.slice kp n kc) ∧ W.cell? ⟨w.heap.size, 1, none⟩ = some (.int .i64 x.fin.kind) ∧ W.cell? ⟨w.heap.size, 2, none⟩ = some (.int .i64 x.fin.op) ∧ W.cell? ⟨w.heap.size, 3, none⟩ = some (.int .i64 x.fin.a) ∧ W.cell? ⟨w.heap.size, 4, none⟩ = some (.int .i64 x.fin.b) ∧ W.cell? ⟨w.heap.size, 5, none⟩ = some (.int .u32 x.fin.n) ∧ W.cell? ⟨w.heap.size, 6, none⟩ = some (.int .i64 x.fin.to) ∧ W.cell? ⟨w.heap.size, 7, none⟩ = some (.int .i64 x.fin.els) ∧ W.cell? ⟨w.heap.size, 8, none⟩ = some (.slice cp cl cc) ∧ W.cell? ⟨w.heap.size, 9, none⟩ = some (.slice tp tl' tc)) := Lib.hid (fun W hW => by
    have hb := (hW.block _ HLT.out).trans HX1.out
    exact ⟨(cell_of_block hb (k := 0) rfl).1, (cell_of_block hb (k := 1) rfl).1, (cell_of_block hb (k := 2) rfl).1, (cell_of_block hb (k := 3) rfl).1, (cell_of_block hb (k := 4) rfl).1, (cell_of_block hb (k := 5) rfl).1, (cell_of_block hb (k := 6) rfl).1, (cell_of_block hb (k := 7) rfl).1, (cell_of_block hb (k := 8) rfl).1, (cell_of_block hb (k := 9) rfl).1⟩)
  go_loopw [5] (fun i wr => ∃ k : Nat, k ≤ n ∧ i = .int .i64 k ∧ Hid (Below w1.heap.size w1 wr) ∧ Hid (firstB x t = firstC x.fin t (x.code.drop k))) (fun i _ => n - (intOf i).toNat)
  case atStart => exact ⟨0, Nat.zero_le _, rfl, Lib.hid (Below.refl _ _), Lib.hid (by rw [List.drop_zero]; rfl)⟩
  case round =>
    obtain ⟨k, hk, rfl, HB, HA⟩ := hrel
    obtain ⟨y0, y1, y2, y3, y4, y5, y6, y7, y8, y9⟩ := HCE.out wr HB.out
    by_cases hkn : k < n
    · obtain ⟨y, hy⟩ : ∃ y, x.code[k]? = some y := ⟨_, List.getElem?_eq_getElem (by have := HN.out; omega)⟩
      obtain ⟨g, o, cap, hv, hcap, hgl, hP⟩ := SlR.form2 HC.out (by have := HN.out; omega)
      injection hv with e1 _ e3
      subst e1 e3
      have hBW : Below w.heap.size w wr := below_then HB1.out HB.out
      obtain ⟨va, vr, hR0⟩ := hP k (by have := HN.out; omega) y hy
      have hR := hR0.below hgl hBW
      have ki : (k : Int) < n := by omega
      have k0 : (0 : Int) ≤ k := by omega
      have k2 : (n : Int) ≤ kc := by have := hcap.1; have := HN.out; omega
      have k3 : (kc : Int) ≤ 9223372036854775807 := by have := hcap.2; omega
      have hop := ins_op (blk_ins HF.out hy)
      have HUS := Lib.hid (fun (W : World) (hW : Below wr.heap.size wr W) => usesI_any y va vr W (hR.l.below hW) hop (by have := (HS.out.2.1 y (List.mem_of_getElem? hy)).1; unfold reachBytes at this; omega))
      have HST := Lib.hid (fun (W : World) (hW : Below wr.heap.size wr W) => Graph.sets_any y va vr W (hR.l.below hW))
      unfold insV at HUS HST
      obtain ⟨z0, z1, z2, z3, z4, z5, z6, z7, _⟩ := hR
      have HZ : Hid (∀ W : World, Below wr.heap.size wr W → W.cell? ⟨g, o + k * 8, none⟩ = some (.int .i64 y.op) ∧ W.cell? ⟨g, o + k * 8 + 1, none⟩ = some (.int .i64 y.d) ∧ W.cell? ⟨g, o + k * 8 + 2, none⟩ = some (.int .i64 y.a) ∧ W.cell? ⟨g, o + k * 8 + 3, none⟩ = some (.int .i64 y.b) ∧ W.cell? ⟨g, o + k * 8 + 4, none⟩ = some (.int .i64 y.f) ∧ W.cell? ⟨g, o + k * 8 + 5, none⟩ = some (.int .u32 y.n) ∧ W.cell? ⟨g, o + k * 8 + 6, none⟩ = some va ∧ W.cell? ⟨g, o + k * 8 + 7, none⟩ = some vr) := Lib.hid (fun W hW => by
        have hg2 : g < wr.heap.size := Nat.lt_of_lt_of_le hgl hBW.size
        exact ⟨(cell_below hW hg2 _).trans z0, (cell_below hW hg2 _).trans z1, (cell_below hW hg2 _).trans z2, (cell_below hW hg2 _).trans z3, (cell_below hW hg2 _).trans z4, (cell_below hW hg2 _).trans z5, (cell_below hW hg2 _).trans z6, (cell_below hW hg2 _).trans z7⟩)
      have HSS := Lib.hid (sets_same (x := y) hop HT.out)
      have HFD := Lib.hid (first_drop (e := x.fin) (t := t) hy)
      obtain ⟨_, _, hva⟩ := (hR0.l.args).form
      obtain ⟨_, _, hvr⟩ := (hR0.l.arrs).form
      clear hR0 hy hP hcap hop hBW
      subst hva hvr
      obtain ⟨q, hq⟩ : ∃ q, q = setsI y := ⟨_, rfl⟩
      rw [← hq] at HST HSS
      clear hq
      by_cases hu : t ∈ usesI y
      · have hd : Hid (decide (t ∈ usesI y) = true) := Lib.hid (decide_eq_true hu)
        have hr : Hid (firstB x t = 1) := Lib.hid (by rw [HA.out, HFD.out, if_pos hu])
        clear hu
        go_wp2_with (first
          | (go_at_call 35
             refine (HUS.out _ (Below.refl _ _)).mono ?_
             rintro e w2 ⟨p2, n2, c2, rfl, h2, hb2⟩
             have H2 := Lib.hid h2
             have HB2 := Lib.hid hb2
             clear h2 hb2)
          | (go_at_call 16
             refine (inList_any _ _ t _ H2.out).mono ?_
             rintro e w3 ⟨rfl, rfl⟩
             rw [hd.out]))
        go_ret
        exact ⟨by rw [hr.out]; rfl, below_then HB1.out (below_then HB.out HB2.out)⟩
      · have hd : Hid (decide (t ∈ usesI y) = false) := Lib.hid (decide_eq_false hu)
        by_cases hst : setsT y = true ∧ y.d = t
        · have hqt : (q == t) = true := by simpa using HSS.out.2 hst
          have hr : Hid (firstB x t = 2) := Lib.hid (by rw [HA.out, HFD.out, if_neg hu, if_pos hst])
          clear hu hst
          go_wp2_with (first
            | (go_at_call 35
               refine (HUS.out _ (Below.refl _ _)).mono ?_
               rintro e w2 ⟨p2, n2, c2, rfl, h2, hb2⟩
               have H2 := Lib.hid h2
               have HB2 := Lib.hid hb2
               obtain ⟨y0, _⟩ := HCE.out w2 (below_then HB.out hb2)
               obtain ⟨z0, z1, z2, z3, z4, z5, z6, z7⟩ := HZ.out w2 hb2
               clear h2 hb2)
            | (go_at_call 16
               refine (inList_any _ _ t _ H2.out).mono ?_
               rintro e w3 ⟨rfl, rfl⟩
               rw [hd.out])
            | (go_at_call 36
               refine (HST.out _ HB2.out).mono ?_
               rintro e w4 ⟨rfl, hb4⟩
               have HB4 := Lib.hid hb4
               clear hb4))
          go_ret
          exact ⟨by rw [hr.out]; rfl, below_then HB1.out (below_then HB.out (below_then HB2.out HB4.out))⟩
        · have hqt : (q == t) = false := by simpa using fun h => hst (HSS.out.1 h)
          have hr : Hid (firstB x t = firstC x.fin t (x.code.drop (k + 1))) := Lib.hid (by rw [HA.out, HFD.out, if_neg hu, if_neg hst])
          clear hu hst
          go_wp2_with (first
            | (go_at_call 35
               refine (HUS.out _ (Below.refl _ _)).mono ?_
               rintro e w2 ⟨p2, n2, c2, rfl, h2, hb2⟩
               have H2 := Lib.hid h2
               have HB2 := Lib.hid hb2
               obtain ⟨y0, _⟩ := HCE.out w2 (below_then HB.out hb2)
               obtain ⟨z0, z1, z2, z3, z4, z5, z6, z7⟩ := HZ.out w2 hb2
               clear h2 hb2)
            | (go_at_call 16
               refine (inList_any _ _ t _ H2.out).mono ?_
               rintro e w3 ⟨rfl, rfl⟩
               rw [hd.out])
            | (go_at_call 36
               refine (HST.out _ HB2.out).mono ?_
               rintro e w4 ⟨rfl, hb4⟩
               have HB4 := Lib.hid hb4
               clear hb4))
          exact ⟨⟨k + 1, by omega, by go_num, Lib.hid (below_then HB.out (below_then HB2.out HB4.out)), hr⟩, by simp [intOf]; omega⟩
    · have hkn2 : k = n := by omega
      have hki : ¬ ((k : Int) < n) := by omega
      by_cases hu : t ∈ usesE x.fin
      · have hd : Hid (decide (t ∈ usesE x.fin) = true) := Lib.hid (decide_eq_true hu)
        have hr : Hid (firstB x t = 1) := Lib.hid (by rw [HA.out, hkn2, HN.out, List.drop_length]; unfold firstC; rw [if_pos hu])
        clear hu
        go_wp2_with (first
          | (go_at_call 37
             refine (HEU.out _).mono ?_
             rintro e w2 ⟨p2, n2, c2, rfl, h2, hb2⟩
             have H2 := Lib.hid h2
             have HB2 := Lib.hid hb2
             clear h2 hb2)
          | (go_at_call 16
             refine (inList_any _ _ t _ H2.out).mono ?_
             rintro e w3 ⟨rfl, rfl⟩
             rw [hd.out]))
        go_ret
        exact ⟨by rw [hr.out]; rfl, below_then HB1.out (below_then HB.out HB2.out)⟩
      · have hd : Hid (decide (t ∈ usesE x.fin) = false) := Lib.hid (decide_eq_false hu)
        have hr : Hid (firstB x t = 0) := Lib.hid (by rw [HA.out, hkn2, HN.out, List.drop_length]; unfold firstC; rw [if_neg hu])
        clear hu
        go_wp2_with (first
          | (go_at_call 37
             refine (HEU.out _).mono ?_
             rintro e w2 ⟨p2, n2, c2, rfl, h2, hb2⟩
             have H2 := Lib.hid h2
             have HB2 := Lib.hid hb2
             clear h2 hb2)
          | (go_at_call 16
             refine (inList_any _ _ t _ H2.out).mono ?_
             rintro e w3 ⟨rfl, rfl⟩
             rw [hd.out]))
        go_ret
        exact ⟨by rw [hr.out]; rfl, below_then HB1.out (below_then HB.out HB2.out)⟩
end Go.Proofs.YtcijaaiopfbffaaDoor.Live
namespace Go.Proofs.YtcijaaiopfbffaaDoor.Live
open Go.RowKit Go.Proofs.YtcijaaiopfbffaaDoor.Graph Go.Shelf

def RowsR (w : World) (v : Value) (l : List (List Int)) : Prop := SlR w 1 v l.length fun i b o => ∀ x, l[i]? = some x → ∃ u, w.cell? ⟨b, o, none⟩ = some u ∧ IntsR w u x
theorem RowsR.below {w w' : World} {v : Value} {l : List (List Int)} (h : RowsR w v l) (hb : Below w.heap.size w w') : RowsR w' v l :=
  SlR.below h hb fun _ _ _ hl hP x hx => let ⟨u, h1, h2⟩ := hP x hx; ⟨u, (cell_below hb hl _).trans h1, h2.below hb⟩
set_option maxHeartbeats 4000000 in
set_option maxRecDepth 100000 in
theorem same_true (l : List Int) (va vb : Value) (w : World) (ha : IntsR w va l) (hb : IntsR w vb l) :
    Calls Tryd.prog 19 #[va, vb] w (Is (.bool true) w) := by
  obtain ⟨pa, ca, rfl⟩ := ha.form
  obtain ⟨pb, cb, rfl⟩ := hb.form
  have HA := Lib.hid ha
  have HB := Lib.hid hb
  obtain ⟨n, hn⟩ : ∃ n, n = l.length := ⟨_, rfl⟩
  have HN := Lib.hid hn
  rw [← hn]
  clear ha hb hn
  go_enter Tryd.func19, Tryd.ntmps19
  go_wp2
  go_loopw [5] (fun i wr => ∃ k : Nat, k ≤ n ∧ i = .int .i64 k ∧ Hid (Below w.heap.size w wr)) (fun i _ => n - (intOf i).toNat)
  case atStart => exact ⟨0, Nat.zero_le _, rfl, Lib.hid (Below.refl _ _)⟩
  case round =>
    obtain ⟨k, hk, rfl, HW⟩ := hrel
    by_cases hkn : k < n
    · obtain ⟨x, hx⟩ : ∃ x, l[k]? = some x := ⟨_, List.getElem?_eq_getElem (by have := HN.out; omega)⟩
      obtain ⟨g, o, c', hv, hc, hg, hc1, hc2⟩ := ints_cell (HA.out.below HW.out) hx
      obtain ⟨g', o', c'', hv', hc', hg', hc1', hc2'⟩ := ints_cell (HB.out.below HW.out) hx
      rw [← HN.out] at hv hc1 hv' hc1'
      injection hv with e1 _ e3
      subst e1 e3
      injection hv' with e1 _ e3
      subst e1 e3
      have ki : (k : Int) < n := by omega
      have k0 : (0 : Int) ≤ k := by omega
      have k2 : (n : Int) ≤ ca := by omega
      have k3 : (ca : Int) ≤ 9223372036854775807 := by omega
      have k4 : (n : Int) ≤ cb := by omega
      have k5 : (cb : Int) ≤ 9223372036854775807 := by omega
      clear hx hc1 hc2 hc1' hc2'
      go_upto_region 6 with (fail)
      go_cut [25] from 17 to 25 (fun v wq => v = .bool false ∧ Hid (Below wr.heap.size wr wq))
      case first =>
        go_region
        all_goals
          go_wp2
          go_meet
          exact ⟨by simp, Lib.hid (Graph.below_drewN wr _)⟩
      case rest =>
        obtain ⟨rfl, HQ⟩ := hcut
        clear hc hc' 
        go_wp2
        exact ⟨⟨k + 1, by omega, by go_num, Lib.hid (below_then HW.out HQ.out)⟩, by simp [intOf]; omega⟩
    · have hkn2 : k = n := by omega
      have hki : ¬ ((k : Int) < n) := by omega
      go_wp2
      go_ret
      exact ⟨rfl, HW.out⟩
set_option maxHeartbeats 4000000 in
set_option maxRecDepth 100000 in
theorem sameAll_true (l : List (List Int)) (va vb : Value) (w : World) (ha : RowsR w va l) (hb : RowsR w vb l) :
    Calls Tryd.prog 13 #[va, vb] w (Is (.bool true) w) := by
  obtain ⟨pa, ca, rfl⟩ := ha.form
  obtain ⟨pb, cb, rfl⟩ := hb.form
  have HA := Lib.hid ha
  have HB := Lib.hid hb
  obtain ⟨n, hn⟩ : ∃ n, n = l.length := ⟨_, rfl⟩
  have HN := Lib.hid hn
  rw [← hn]
  clear ha hb hn
  go_enter Tryd.func13, Tryd.ntmps13
  go_wp2
  go_loopw [5] (fun i wr => ∃ k : Nat, k ≤ n ∧ i = .int .i64 k ∧ Hid (Below w.heap.size w wr)) (fun i _ => n - (intOf i).toNat)
  case atStart => exact ⟨0, Nat.zero_le _, rfl, Lib.hid (Below.refl _ _)⟩
  case round =>
    obtain ⟨k, hk, rfl, HW⟩ := hrel
    by_cases hkn : k < n
    · obtain ⟨x, hx⟩ : ∃ x, l[k]? = some x := ⟨_, List.getElem?_eq_getElem (by have := HN.out; omega)⟩
      obtain ⟨g, o, c', hv, hcap, hg, hP⟩ := SlR.form2 (HA.out.below HW.out) (by have := HN.out; omega)
      obtain ⟨g', o', c'', hv', hcap', hg', hP'⟩ := SlR.form2 (HB.out.below HW.out) (by have := HN.out; omega)
      injection hv with e1 _ e3
      subst e1 e3
      injection hv' with e1 _ e3
      subst e1 e3
      obtain ⟨u, hu1, hu2⟩ := hP k (by have := HN.out; omega) x hx
      obtain ⟨u', hu1', hu2'⟩ := hP' k (by have := HN.out; omega) x hx
      rw [Nat.mul_one] at hu1 hu1'
      have ki : (k : Int) < n := by omega
      have k0 : (0 : Int) ≤ k := by omega
      have k2 : (n : Int) ≤ ca := by have := HN.out; omega
      have k3 : (ca : Int) ≤ 9223372036854775807 := by omega
      have k4 : (n : Int) ≤ cb := by have := HN.out; omega
      have k5 : (cb : Int) ≤ 9223372036854775807 := by omega
      have HSM := Lib.hid (fun (W : World) (hW : Below wr.heap.size wr W) => same_true x u u' W (hu2.below hW) (hu2'.below hW))
      have HCE : Hid (∀ W : World, Below wr.heap.size wr W → W.cell? ⟨g, o + k, none⟩ = some u ∧ W.cell? ⟨g', o' + k, none⟩ = some u') := Lib.hid (fun W hW => ⟨(cell_below hW hg _).trans hu1, (cell_below hW hg' _).trans hu1'⟩)
      obtain ⟨q, qn, rfl⟩ := hu2.form
      obtain ⟨q', qn', rfl⟩ := hu2'.form
      clear hx hcap hcap' hP hP' hu2 hu2'
      go_upto_region 6 with (fail)
      go_cut [26] from 17 to 26 (fun v wq => v = .bool false ∧ Hid (Below wr.heap.size wr wq))
      case first =>
        go_region_held3 (fun W => W.cell? ⟨g, o + k, none⟩ = some (.slice q x.length qn) ∧ W.cell? ⟨g', o' + k, none⟩ = some (.slice q' x.length qn')) (go_keep) (first
          | (go_at_call 19
             refine (HSM.out _ (Below.refl _ _).drew).mono ?_
             rintro e w5 ⟨rfl, hb5⟩
             have HB5 : Hid (Below wr.heap.size wr w5) := Lib.hid (below_then (Below.refl _ _).drew hb5)
             obtain ⟨z0, z1⟩ := HCE.out w5 HB5.out
             clear hb5))
        all_goals
          go_wp2
          go_meet
          exact ⟨rfl, HB5⟩
      case rest =>
        obtain ⟨rfl, HQ⟩ := hcut
        clear hu1 hu1'
        go_wp2
        exact ⟨⟨k + 1, by omega, by go_num, Lib.hid (below_then HW.out HQ.out)⟩, by simp [intOf]; omega⟩
    · have hkn2 : k = n := by omega
      have hki : ¬ ((k : Int) < n) := by omega
      go_wp2
      go_ret
      exact ⟨rfl, HW.out⟩
/-- The graph of the law's alive. -/
def alG : PGr := ⟨[], 3, [], [⟨[⟨6, 0, 1, 2, 0, 0, [], []⟩], ⟨5, 0, 0, 0, 0, 0, 0, [], []⟩⟩]⟩
theorem al_need (b : Nat) (t : Int) : Need alG b t ↔ b = 0 ∧ (t = 1 ∨ t = 2) := by
  constructor
  · intro h
    have hb : b = 0 := by have := h.lt; simp [alG] at this; omega
    subst hb
    refine ⟨rfl, ?_⟩
    cases h with
    | use hb h1 =>
      simp only [alG, List.getElem?_cons_zero, Option.some.injEq] at hb
      subst hb
      simp only [firstB, firstC, usesI, setsT, usesE] at h1
      by_cases h2 : t = 1 ∨ t = 2
      · exact h2
      · have e1 : ¬ t = 1 := fun h => h2 (.inl h)
        have e2 : ¬ t = 2 := fun h => h2 (.inr h)
        by_cases e0 : t = 0
        · subst e0; simp at h1
        · have e0' : ¬ (0 : Int) = t := fun h => e0 h.symm
          simp [e0, e0', e1, e2] at h1
    | step hb _ hc _ =>
      simp only [alG, List.getElem?_cons_zero, Option.some.injEq] at hb
      subst hb
      simp [namedN] at hc
  · rintro ⟨rfl, h⟩
    refine .use (blk := ⟨[⟨6, 0, 1, 2, 0, 0, [], []⟩], ⟨5, 0, 0, 0, 0, 0, 0, [], []⟩⟩) rfl ?_
    rcases h with rfl | rfl <;> rfl
theorem al_list : needN alG 0 = [1, 2] := by
  unfold needN
  rw [show alG.temps.toNat = 3 by rfl, show List.range 3 = [0, 1, 2] by rfl]
  have h0 : ¬ Need alG 0 ((0 : Nat) : Int) := fun h => by have := (al_need _ _).1 h; omega
  have h1 : Need alG 0 ((1 : Nat) : Int) := (al_need _ _).2 ⟨rfl, .inl rfl⟩
  have h2 : Need alG 0 ((2 : Nat) : Int) := (al_need _ _).2 ⟨rfl, .inr rfl⟩
  rw [List.filter_cons_of_neg (by simpa using h0), List.filter_cons_of_pos (by simpa using h1), List.filter_cons_of_pos (by simpa using h2), List.filter_nil]
theorem al_fits : fitsB alG = true := by decide
theorem al_sm : SmG alG := by simp [SmG, alG, SmB, SmI, SmE, reachBytes]
end Go.Proofs.YtcijaaiopfbffaaDoor.Live
namespace Go.Proofs.YtcijaaiopfbffaaDoor.Live
open Go.RowKit Go.Proofs.YtcijaaiopfbffaaDoor.Graph Go.Shelf

def alIns : Obj := .cells #[.int .i64 6, .int .i64 0, .int .i64 1, .int .i64 2, .int .i64 0, .int .u32 0, .slice none 0 0, .slice none 0 0] 77
def alBlk (g : Nat) : Obj := .cells #[.slice (some ⟨g, 0, none⟩) 1 1, .int .i64 5, .int .i64 0, .int .i64 0, .int .i64 0, .int .u32 0, .int .i64 0, .int .i64 0, .slice none 0 0, .slice none 0 0] 42
theorem al_lies (w W : World) (hb : Below (w.heap.size + 2) ((w.alloc alIns).alloc (alBlk w.heap.size)) W) : GrL W (.slice none 0 0) (.slice none 0 0) (.slice (some ⟨w.heap.size + 1, 0, none⟩) 1 1) alG := by
  have hi : W.heap[w.heap.size]? = some alIns := by
    rw [hb.block _ (by omega), Below.heap_alloc _ _ _ (by simp)]
    exact World.alloc_heap_new w alIns
  have hk : W.heap[w.heap.size + 1]? = some (alBlk w.heap.size) := by
    rw [hb.block _ (by omega)]
    have := World.alloc_heap_new (w.alloc alIns) (alBlk w.heap.size)
    simpa using this
  have l1 := (Array.getElem?_eq_some_iff.1 hi).1
  have l2 := (Array.getElem?_eq_some_iff.1 hk).1
  unfold alIns at hi
  unfold alBlk at hk
  refine ⟨.inl ⟨rfl, _, _, rfl⟩, .inl ⟨rfl, _, _, rfl⟩, .inr ⟨w.heap.size + 1, 0, 1, rfl, by decide, by decide, l2, fun i hi1 x hx => ?_⟩⟩
  have hi1 : i < 1 := hi1
  obtain rfl : i = 0 := by omega
  simp only [alG, List.getElem?_cons_zero, Option.some.injEq] at hx
  subst hx
  refine ⟨_, _, _, (cell_of_block hk (k := 0) rfl).1, .inr ⟨w.heap.size, 0, 1, rfl, by decide, by decide, l1, fun j hj1 y hy => ?_⟩, (cell_of_block hk (k := 1) rfl).1, (cell_of_block hk (k := 2) rfl).1, (cell_of_block hk (k := 3) rfl).1, (cell_of_block hk (k := 4) rfl).1, (cell_of_block hk (k := 5) rfl).1, (cell_of_block hk (k := 6) rfl).1, (cell_of_block hk (k := 7) rfl).1, (cell_of_block hk (k := 8) rfl).1, (cell_of_block hk (k := 9) rfl).1, .inl ⟨rfl, _, _, rfl⟩, .inl ⟨rfl, _, _, rfl⟩, by decide⟩
  have hj1 : j < 1 := hj1
  obtain rfl : j = 0 := by omega
  simp only [List.getElem?_cons_zero, Option.some.injEq] at hy
  subst hy
  exact ⟨_, _, (cell_of_block hi (k := 0) rfl).1, (cell_of_block hi (k := 1) rfl).1, (cell_of_block hi (k := 2) rfl).1, (cell_of_block hi (k := 3) rfl).1, (cell_of_block hi (k := 4) rfl).1, (cell_of_block hi (k := 5) rfl).1, (cell_of_block hi (k := 6) rfl).1, (cell_of_block hi (k := 7) rfl).1, .inl ⟨rfl, _, _, rfl⟩, .inl ⟨rfl, _, _, rfl⟩, by decide⟩
/-- What Live tells, as lists of lists. -/
noncomputable def liveL (x : PGr) : List (List Int) := (List.range x.blocks.length).map (needL x)
theorem LiveOut.rows {x : PGr} {n rb : Nat} {vs : Nat → Value} {w w' : World} (h : LiveOut x n rb vs w w') (hn : n = x.blocks.length) (hb : n ≤ 20000) : RowsR w' (.slice (some ⟨rb, 0, none⟩) n n) (liveL x) := by
  have hl : (liveL x).length = n := by unfold liveL; rw [List.length_map, List.length_range, hn]
  unfold RowsR
  rw [hl]
  rcases Nat.eq_zero_or_pos n with h0 | h0
  · exact .inl ⟨h0, _, _, by rw [h0]⟩
  · refine .inr ⟨rb, 0, n, rfl, h0, ⟨Nat.le_refl _, by omega⟩, h.ah.lt, fun i hi y hy => ⟨vs i, ?_, ?_⟩⟩
    · rw [Nat.mul_one, Nat.zero_add]; exact (h.ah.cell hi).1
    · have : y = needL x i := by
        unfold liveL at hy
        rw [List.getElem?_map, List.getElem?_range (by omega)] at hy
        injection hy with hy; exact hy.symm
      rw [this]
      exact ints_own (h.ah.rows i hi)
theorem al_liveL : liveL alG = [[1, 2]] := by
  unfold liveL
  rw [show alG.blocks.length = 1 by rfl, show List.range 1 = [0] by rfl]
  simp only [List.map_cons, List.map_nil]
  unfold needL
  rw [al_list]; rfl
theorem al_live (w W : World) (hb : Below (w.heap.size + 2) ((w.alloc alIns).alloc (alBlk w.heap.size)) W) (hT : TabAt 0 Lib.deBruijn64tab W) (h0 : 0 < W.heap.size) :
    Calls Tryd.prog 10 #[.agg #[.slice none 0 0, .int .i64 3, .slice none 0 0, .slice (some ⟨w.heap.size + 1, 0, none⟩) 1 1]] W (LiveOk alG 1 W) :=
  live_ok alG (.slice none 0 0) (.slice none 0 0) (.slice (some ⟨w.heap.size + 1, 0, none⟩) 1 1) W (al_lies w W hb) al_sm.n al_fits hT h0
theorem rows_12 (W W' : World) (hb : Below (W.heap.size + 2) ((W.alloc (.cells #[.int .i64 1, .int .i64 2] 3)).alloc (.cells #[.slice (some ⟨W.heap.size, 0, none⟩) 2 2] 22)) W') : RowsR W' (.slice (some ⟨W.heap.size + 1, 0, none⟩) 1 1) [[1, 2]] := by
  have hi : W'.heap[W.heap.size]? = some (.cells #[.int .i64 1, .int .i64 2] 3) := by
    rw [hb.block _ (by omega), Below.heap_alloc _ _ _ (by simp)]
    exact World.alloc_heap_new W _
  have hk : W'.heap[W.heap.size + 1]? = some (.cells #[.slice (some ⟨W.heap.size, 0, none⟩) 2 2] 22) := by
    rw [hb.block _ (by omega)]
    have := World.alloc_heap_new (W.alloc (.cells #[.int .i64 1, .int .i64 2] 3)) (.cells #[.slice (some ⟨W.heap.size, 0, none⟩) 2 2] 22)
    simpa using this
  refine .inr ⟨W.heap.size + 1, 0, 1, rfl, by decide, by decide, (Array.getElem?_eq_some_iff.1 hk).1, fun i hi1 y hy => ?_⟩
  have hi1 : i < 1 := hi1
  obtain rfl : i = 0 := by omega
  simp only [List.getElem?_cons_zero, Option.some.injEq] at hy
  subst hy
  refine ⟨_, (cell_of_block hk (k := 0) rfl).1, .inr ⟨W.heap.size, 0, 2, rfl, by decide, by decide, (Array.getElem?_eq_some_iff.1 hi).1, fun j hj1 z hz => ?_⟩⟩
  match j, hz with
  | 0, hz => injection hz with hz; subst hz; exact (cell_of_block hi (k := 0) rfl).1
  | 1, hz => injection hz with hz; subst hz; exact (cell_of_block hi (k := 1) rfl).1
set_option maxHeartbeats 4000000 in
set_option maxRecDepth 100000 in
theorem alive_any (w : World) (hT : TabAt 0 Lib.deBruijn64tab w) (h0 : 0 < w.heap.size) : Calls Tryd.prog 12 #[] w (Is (.bool true) w) := by
  have HLV : Hid (Calls Tryd.prog 10 #[.agg #[.slice none 0 0, .int .i64 3, .slice none 0 0, .slice (some ⟨w.heap.size + 1, 0, none⟩) 1 1]] (((w.alloc alIns).alloc (alBlk w.heap.size)).alloc (.cells #[.slice none 0 0, .int .i64 3, .slice none 0 0, .slice (some ⟨w.heap.size + 1, 0, none⟩) 1 1] 26)) (LiveOk alG 1 (((w.alloc alIns).alloc (alBlk w.heap.size)).alloc (.cells #[.slice none 0 0, .int .i64 3, .slice none 0 0, .slice (some ⟨w.heap.size + 1, 0, none⟩) 1 1] 26)))) := Lib.hid (by
    have h1 : Below w.heap.size w (((w.alloc alIns).alloc (alBlk w.heap.size)).alloc (.cells #[.slice none 0 0, .int .i64 3, .slice none 0 0, .slice (some ⟨w.heap.size + 1, 0, none⟩) 1 1] 26)) := ((Graph.below_alloc w _).alloc (by simp) _).alloc (by simp; omega) _
    refine al_live w _ ?_ (tab_below hT h0 h1) (Nat.lt_of_lt_of_le h0 h1.size)
    exact (Below.refl _ _).alloc (by simp) _)
  have HW : Hid (Below w.heap.size w (((w.alloc alIns).alloc (alBlk w.heap.size)).alloc (.cells #[.slice none 0 0, .int .i64 3, .slice none 0 0, .slice (some ⟨w.heap.size + 1, 0, none⟩) 1 1] 26))) := Lib.hid (((Graph.below_alloc w _).alloc (by simp) _).alloc (by simp; omega) _)
  clear hT h0
  unfold alIns alBlk at HLV HW
  go_enter Tryd.func12, Tryd.ntmps12
  go_wp2_with (first
    | (go_at_call 10
       refine HLV.out.mono ?_
       rintro e w5 ⟨rb, vs, rfl, h5⟩
       have H5 := Lib.hid h5
       clear h5)
    | (go_at_call 13
       have hb6 := ((Graph.below_alloc w5 (.cells #[.int .i64 1, .int .i64 2] 3)).alloc (by simp) (.cells #[.slice (some ⟨w5.heap.size, 0, none⟩) 2 2] 22))
       refine (sameAll_true [[1, 2]] _ _ _ (by rw [← al_liveL]; exact (H5.out.rows rfl (by decide)).below hb6) (rows_12 w5 _ (Below.refl _ _))).mono ?_
       rintro e w7 ⟨rfl, hb7⟩
       have HB6 := Lib.hid hb6
       have HB7 := Lib.hid hb7
       clear hb6 hb7))
  go_ret
  exact ⟨rfl, below_then HW.out (below_then H5.out.below (below_then HB6.out HB7.out))⟩
end Go.Proofs.YtcijaaiopfbffaaDoor.Live
