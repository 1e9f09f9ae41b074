/- Print: a list as a text. No condition but what the package variables hold, and sizes. -/
import Derived.Test.YthojmbljlehpbaaGreatDoorG20
namespace Go.Proofs.YthojmbljlehpbaaGreatDoor.Lists
open Go.RowKit Go.Proofs.YthojmbljlehpbaaGreatDoor.Relax Go.Proofs.YthojmbljlehpbaaGreatDoor.Graph
open Go.Lib hiding intOf
open Go.Proofs.YthojmbljlehpbaaGreatDoor.Enc hiding below_one bt ret_bool

theorem slr_max {w : World} {sz : Nat} {v : Value} {n : Nat} {P : Nat → Nat → Nat → Prop} (h : SlR w sz v n P) : n ≤ 9223372036854775807 := by
  rcases h with ⟨rfl, _⟩ | ⟨_, _, _, _, _, h1, _⟩
  · omega
  · omega
theorem printL_snoc (l : List PL) (x : PL) : printL (l ++ [x]) = (printL l ++ sepW (wordsL x)) ++ [10] := by unfold printL; simp
theorem printL_len : ∀ {l : List PL}, (∀ x ∈ l, fineL x) → (printL l).length ≤ 10000 * l.length
  | [], _ => by simp [printL]
  | x :: t, h => by
    have h1 := printL_len (l := t) (fun y hy => h y (List.mem_cons_of_mem _ hy))
    obtain ⟨h2, _, h3⟩ := words_ok (h x List.mem_cons_self)
    have h4 := sep_len h2
    show ((sepW (wordsL x) ++ [10]) ++ printL t).length ≤ _
    simp only [List.length_append, List.length_nil, List.length_cons]
    omega
def PrintPost (l : List PL) (w : World) (e : Ending) (w' : World) : Prop := e = .returned (.tuple #[.string ⟨(printP l).1.toArray⟩, .int .i64 (printP l).2]) ∧ Below w.heap.size w w'
theorem print_post {l : List PL} {w w' : World} {s : List UInt8} {n : Int} (h : printP l = (s, n)) (hb : Below w.heap.size w w') : PrintPost l w (.returned (.tuple #[.string ⟨s.toArray⟩, .int .i64 n])) w' := ⟨by rw [h], hb⟩
theorem may_not {l : List PL} {x : PL} (h : x ∈ l) (hm : mayB x = false) (hn : l.length ≤ 60000) : printP l = ([], 1) := by
  unfold printP
  rw [if_neg (by omega), if_neg]
  intro ha
  have := List.all_eq_true.1 ha x h
  rw [hm] at this; cases this
set_option maxHeartbeats 16000000 in
set_option maxRecDepth 100000 in
theorem print_any (l : List PL) (v : Value) (w : World) (hL : LaidL w) (h : LinesR w v l) (hs : ∀ x ∈ l, x.list.length ≤ 100000000000000) (hx : ∀ x ∈ l, 0 ≤ x.n ∧ x.n ≤ 4294967295) :
    Calls Tryz.prog 13 #[v] w (PrintPost l w) := by
  have hn9 := slr_max h
  obtain ⟨p, c, rfl⟩ := h.form
  obtain ⟨n, hn⟩ : ∃ n, n = l.length := ⟨_, rfl⟩
  have HN := Lib.hid hn
  have HV := Lib.hid h
  have HS := Lib.hid hs
  have HXN := Lib.hid hx
  have HLL := Lib.hid (fun (W : World) (hW : Below w.heap.size w W) => hL.below hW)
  have hp8 := hL.pos
  rw [← hn] at hn9 ⊢
  clear h hn hs hx hL
  by_cases h6 : 60000 < n
  · have HX : Hid (printP l = ([], 2)) := Lib.hid (by unfold printP; rw [if_pos (by have := HN.out; omega)])
    have i1 : (60000 : Int) < n := by omega
    clear h6
    go_enter Tryz.func13, Tryz.ntmps13
    go_wp2
    go_ret2
    exact print_post HX.out (Below.refl _ _)
  · have i1 : ¬ ((60000 : Int) < n) := by omega
    have HC : Hid (∀ k, k < n → ∃ gb go_ x lp lc, p = some ⟨gb, go_, none⟩ ∧ l[k]? = some x ∧ (n ≤ c ∧ c ≤ 9223372036854775807) ∧ ∀ W, Below w.heap.size w W → gb < W.heap.size ∧ (W.cell? ⟨gb, go_ + k * 7, none⟩ = some (.int .i64 x.op) ∧ W.cell? ⟨gb, go_ + k * 7 + 1, none⟩ = some (.int .i64 x.a) ∧ W.cell? ⟨gb, go_ + k * 7 + 2, none⟩ = some (.int .i64 x.b) ∧ W.cell? ⟨gb, go_ + k * 7 + 3, none⟩ = some (.int .i64 x.imm) ∧ W.cell? ⟨gb, go_ + k * 7 + 4, none⟩ = some (.int .u32 x.n) ∧ W.cell? ⟨gb, go_ + k * 7 + 5, none⟩ = some (.int .i64 x.label) ∧ W.cell? ⟨gb, go_ + k * 7 + 6, none⟩ = some (.slice lp x.list.length lc)) ∧ IntsR W (.slice lp x.list.length lc) x.list) := Lib.hid (fun k hk => by
      obtain ⟨x, hx⟩ := getN HN.out hk
      obtain ⟨gb, go_, gc, hv, hcc, hgl, hcell⟩ := SlR.form2 HV.out (by have := HN.out; omega)
      injection hv with hv hvn hv2
      subst hv hv2
      obtain ⟨vl, hL⟩ := hcell k (by have := HN.out; omega) x hx
      obtain ⟨lp, lc, rfl⟩ := hL.list.form
      exact ⟨gb, go_, x, lp, lc, rfl, hx, ⟨by have := HN.out; omega, hcc.2⟩, fun W hW => ⟨Nat.lt_of_lt_of_le hgl hW.size, by
        have hq := hL.below hgl hW
        exact ⟨hq.op, hq.fa, hq.fb, hq.imm, hq.n, hq.label, hq.cl⟩, hL.list.below hW⟩⟩)
    have i2 : (n : Int) ≤ 9223372036854775807 := by omega
    have HB0 : Hid (BldR w.heap.size w.heap.size (Lib.byteCells (printL (l.take 0))) (w.alloc (.cells #[.pointer none, .slice none 0 0] 56))) := Lib.hid (.inl ⟨Nat.le_refl _, .slice none 0 0, heap_alloc_new w _, World.ownsRowF_of (World.ownsRow_nil _ _ _ _), by simp [Value.ownBlock]⟩)
    have HBW0 := Lib.hid (below_one w (.cells #[.pointer none, .slice none 0 0] 56))
    have hno : ¬ 60000 < n := h6
    clear h6 hn9
    go_enter Tryz.func13, Tryz.ntmps13
    go_upto_region 4 with (fail)
    generalize (w.alloc (.cells #[.pointer none, .slice none 0 0] 56)) = wm at HB0 HBW0 ⊢
    go_wp2
    go_loopw [12] (fun i wr => ∃ k : Nat, k ≤ n ∧ i = .int .i64 k ∧ Hid (BldR w.heap.size w.heap.size (Lib.byteCells (printL (l.take k))) wr) ∧ Hid (Below w.heap.size w wr) ∧ Hid (∀ x ∈ l.take k, fineL x)) (fun i _ => n - (intOf i).toNat)
    case atStart => exact ⟨0, Nat.zero_le _, rfl, HB0, HBW0, Lib.hid (by simp)⟩
    case round =>
      obtain ⟨k, hk, rfl, HBr, HBB, HA⟩ := hrel
      have k0 : (0 : Int) ≤ k := by omega
      by_cases hkn : k < n
      · obtain ⟨gb, go_, x, lp, lc, rfl, hx, ⟨hc1, hc2⟩, hcell⟩ := HC.out k hkn
        have k1 : (k : Int) < n := by omega
        have c1 : (n : Int) ≤ c := by omega
        have c2 : (c : Int) ≤ 9223372036854775807 := by omega
        have hmem := List.mem_of_getElem? hx
        obtain ⟨hg0, ⟨q0, q1, q2, q3, q4, q5, q6⟩, hil⟩ := hcell wr HBB.out
        have HKN := Lib.hid hkn
        have HTK := Lib.hid (show l.take (k + 1) = l.take k ++ [x] by rw [List.take_add_one, hx]; rfl)
        obtain ⟨m, hm⟩ : ∃ m, m = x.list.length := ⟨_, rfl⟩
        rw [← hm] at q6
        obtain ⟨W1, hW1⟩ : ∃ W1, W1 = wr.alloc (.cells #[.int .i64 x.op, .int .i64 x.a, .int .i64 x.b, .int .i64 x.imm, .int .u32 x.n, .int .i64 x.label, .slice lp m lc] 52) := ⟨_, rfl⟩
        have hB1 : Below wr.heap.size wr W1 := by rw [hW1]; exact below_one wr _
        have hcb : W1.heap[wr.heap.size]? = some (.cells #[.int .i64 x.op, .int .i64 x.a, .int .i64 x.b, .int .i64 x.imm, .int .u32 x.n, .int .i64 x.label, .slice lp m lc] 52 (0, 0)) := by rw [hW1]; exact heap_alloc_new wr _
        have HCB : Hid (∀ W, Below W1.heap.size W1 W → W.cell? ⟨wr.heap.size, 0, none⟩ = some (.int .i64 x.op) ∧ W.cell? ⟨wr.heap.size, 1, none⟩ = some (.int .i64 x.a) ∧ W.cell? ⟨wr.heap.size, 2, none⟩ = some (.int .i64 x.b) ∧ W.cell? ⟨wr.heap.size, 3, none⟩ = some (.int .i64 x.imm) ∧ W.cell? ⟨wr.heap.size, 4, none⟩ = some (.int .u32 x.n) ∧ W.cell? ⟨wr.heap.size, 5, none⟩ = some (.int .i64 x.label) ∧ W.cell? ⟨wr.heap.size, 6, none⟩ = some (.slice lp m lc)) := Lib.hid (fun W hW => by
          have h1 := (hW.block _ (Array.getElem?_eq_some_iff.1 hcb).1).trans hcb
          exact ⟨cell_of_block h1 rfl, cell_of_block h1 rfl, cell_of_block h1 rfl, cell_of_block h1 rfl, cell_of_block h1 rfl, cell_of_block h1 rfl, cell_of_block h1 rfl⟩)
        have HB1 := Lib.hid (bld_below HBr.out hB1)
        have HBW1 := Lib.hid (bt HBB.out hB1)
        have HI1 := Lib.hid (show ∀ W, Below W1.heap.size W1 W → IntsR W (.slice lp x.list.length lc) x.list from fun W hW => hil.below (bt hB1 hW))
        have HMB := Lib.hid (fun (W : World) (hF : FormsAt W) (hI : IntsR W (.slice lp x.list.length lc) x.list) => mayBe_any x lp lc W hF hI (HS.out x hmem))
        have HWO := Lib.hid (fun (W : World) (hF : FormsAt W) (hm : mayB x = true) (hI : IntsR W (.slice lp x.list.length lc) x.list) => wordsOf_any x lp lc W hF hm (by have := HXN.out x hmem; omega) hI)
        have HNO := Lib.hid (fun hm => may_not hmem hm (by have := HN.out; omega))
        have HFN := Lib.hid (fun hm => (show fineL x from ⟨hm, by have := HXN.out x hmem; omega⟩))
        unfold lineV RowPost at HWO
        unfold lineV at HMB
        rw [← hm] at HI1 HMB HWO
        obtain ⟨my, hmy⟩ : ∃ my, my = mayB x := ⟨_, rfl⟩
        have HMY := Lib.hid hmy
        rw [← hmy] at HMB
        clear hx hc1 hc2 hcell hmem hil hB1 hcb hm hmy hkn hk
        go_upto_region 7 with (fail)
        rw [← hW1]
        clear q0 q1 q2 q3 q4 q5 q6 hg0 hW1
        obtain ⟨y0, y1, y2, y3, y4, y5, y6⟩ := HCB.out W1 (Below.refl _ _)
        rcases (show my = false ∨ my = true by cases my <;> simp) with rfl | rfl
        · go_wp2_with (
            go_at_call 27
            refine (HMB.out W1 (HLL.out W1 HBW1.out).forms (HI1.out W1 (Below.refl _ _))).mono ?_
            rintro e w4 ⟨rfl, hb4⟩
            have HB4 := Lib.hid (bt HBW1.out hb4)
            clear hb4)
          go_ret2
          exact print_post (HNO.out HMY.out.symm) HB4.out
        · have HFL := Lib.hid (HFN.out HMY.out.symm)
          obtain ⟨ws, hws⟩ : ∃ ws, ws = wordsL x := ⟨_, rfl⟩
          have hwo := words_ok HFL.out
          have HWX := Lib.hid (fun (W : World) (hF : FormsAt W) hI => HWO.out W hF HMY.out.symm hI)
          rw [← hws] at HWX hwo
          have HWK := Lib.hid hwo
          have HPS : Hid (printL (l.take (k + 1)) = (printL (l.take k) ++ sepW ws) ++ [10]) := Lib.hid (by rw [HTK.out, printL_snoc, hws])
          have HPL : Hid ((printL (l.take k)).length ≤ 600000000) := Lib.hid (by
            have h1 := printL_len HA.out
            rw [List.length_take] at h1
            omega)
          obtain ⟨nw, hnw⟩ : ∃ n, n = ws.length := ⟨_, rfl⟩
          have HNW := Lib.hid hnw
          rw [← hnw] at HWX
          clear hws hwo hnw HWO HNO HFN
          go_wp2_with (first
            | (go_at_call 27
               refine (HMB.out W1 (HLL.out W1 HBW1.out).forms (HI1.out W1 (Below.refl _ _))).mono ?_
               rintro e w4 ⟨rfl, hb4⟩
               have HB4 := Lib.hid (bld_below HB1.out hb4)
               have HBW4 := Lib.hid (bt HBW1.out hb4)
               have HI4 := Lib.hid (HI1.out w4 hb4)
               clear y0 y1 y2 y3 y4 y5 y6
               obtain ⟨y0, y1, y2, y3, y4, y5, y6⟩ := HCB.out w4 hb4
               clear hb4)
            | (go_at_call 29
               refine (HWX.out w4 (HLL.out w4 HBW4.out).forms HI4.out).mono ?_
               rintro e w5 ⟨g5, p5, rfl, h1, h2, h3, h4⟩
               have HR5 := Lib.hid h3
               have HC5 := Lib.hid (And.intro h1 h2)
               have HB5 := Lib.hid (bld_below HB4.out h4)
               have HBW5 := Lib.hid (bt HBW4.out h4)
               clear h1 h2 h3 h4 y0 y1 y2 y3 y4 y5 y6)
            | (go_at_call 28
               refine (show Calls Tryz.prog 28 #[.pointer (some ⟨w.heap.size, 0, none⟩), .slice (some ⟨g5, 0, none⟩) nw p5] w5 _ from HNW.out ▸ write_any w.heap.size w.heap.size _ g5 p5 (printL (l.take k)) ws w5 (HLL.out w5 HBW5.out) hp8 HBW5.out.size HB5.out (by have := HPL.out; omega) (by rw [← HNW.out]; exact HR5.out) (by have := HWK.out.2.2; omega) (by rw [← HNW.out]; exact HC5.out) HWK.out.1).mono ?_
               rintro e w6 ⟨rfl, h1, h2, h3⟩
               have HB6 := Lib.hid h1
               have HBW6 := Lib.hid (HBW5.out.trans h2)
               clear h1 h2 h3)
            | (go_at_call 30
               refine (writeByte_any w.heap.size w.heap.size _ 10 _ HB6.out (by
                 have h1 := HPL.out
                 have h2 := sep_len HWK.out.1
                 have h3 := HWK.out.2.2
                 rw [Lib.byteCells_length, List.length_append]; omega) HBW6.out.size).mono ?_
               rintro e w7 ⟨rfl, h1, h2, h3⟩
               have HB7 := Lib.hid h1
               have HBW7 := Lib.hid (HBW6.out.trans h2)
               clear h1 h2 h3))
          exact ⟨⟨k + 1, HKN.out, by go_num, Lib.hid (by rw [HPS.out, Lib.byteCells_append]; exact HB7.out), HBW7, Lib.hid (fun y hy => by
            rw [HTK.out] at hy
            rcases List.mem_append.1 hy with hy | hy
            · exact HA.out y hy
            · rw [List.mem_singleton.1 hy]; exact HFL.out)⟩, by have := HKN.out; simp [intOf]; omega⟩
      · obtain rfl : n = k := by omega
        have HTE : Hid (l.take n = l) := Lib.hid (List.take_of_length_le (by have := HN.out; omega))
        have HX : Hid (printP l = (printL l, 0)) := Lib.hid (by
          unfold printP
          rw [if_neg (by have := HN.out; omega), if_pos]
          refine List.all_eq_true.2 fun x hx => ?_
          have := HA.out
          rw [HTE.out] at this
          exact (this x hx).1)
        have HB9 : Hid (BldR w.heap.size w.heap.size (Lib.byteCells (printL l)) wr) := Lib.hid (by have := HBr.out; rwa [HTE.out] at this)
        go_wp2_with (
          go_at_call 31
          refine (Tryz.Builder_String_any_k w.heap.size w.heap.size (printL l) wr HB9.out HBB.out.size).mono ?_
          rintro e w8 ⟨rfl, h1, h2, h3⟩
          have HBW8 := Lib.hid (HBB.out.trans h2)
          clear h1 h2 h3)
        go_ret2
        exact print_post HX.out HBW8.out
end Go.Proofs.YthojmbljlehpbaaGreatDoor.Lists
