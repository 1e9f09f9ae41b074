/- The document's Places: places of lines, how many words there are, and where each label stands. No condition but that the list is taken. -/
import Derived.Test.YtmnhafncdblklaaDoorRx0
import Derived.Test.YtmnhafncdblklaaDoorGP
import Derived.Test.YtmnhafncdblklaaDoorUp
namespace Go.Proofs.YtmnhafncdblklaaDoor.Relax
open Go.RowKit Go.Proofs.YtmnhafncdblklaaDoor.Enc Go.Proofs.YtmnhafncdblklaaDoor.Graph

/-- Whether each line is long, as it lies. -/
structure LongR (w : World) (v : Value) (b n : Nat) (g : List Bool) : Prop where
  form : ∃ c, v = .slice (some ⟨b, 0, none⟩) n c ∧ n ≤ c ∧ c ≤ 9223372036854775807
  lt : b < w.heap.size
  cell : ∀ k, k < n → w.cell? ⟨b, k, none⟩ = some (.bool (longAt g k))
theorem LongR.below {w w' : World} {v : Value} {b n : Nat} {g : List Bool} (h : LongR w v b n g) (hb : Below w.heap.size w w') : LongR w' v b n g :=
  ⟨h.form, Nat.lt_of_lt_of_le h.lt hb.size, fun k hk => (hb.cell (p := ⟨b, k, none⟩) h.lt).trans (h.cell k hk)⟩
def placesL (l : List PL) (g : List Bool) (k : Nat) : List Int := (List.range k).map fun j => (placeP l g j : Int)
theorem placesL_succ (l : List PL) (g : List Bool) (k : Nat) : placesL l g (k + 1) = placesL l g k ++ [(placeP l g k : Int)] := by
  unfold placesL; rw [List.range_succ, List.map_append]; rfl
theorem placesL_len (l : List PL) (g : List Bool) (k : Nat) : (placesL l g k).length = k := by unfold placesL; simp
def PlacesPost (l : List PL) (g : List Bool) (w : World) (e : Ending) (w' : World) : Prop :=
  ∃ vp, e = .returned (.tuple #[vp, .int .i64 (placeP l g l.length : Int), .slice (some ⟨w.heap.size, 0, none⟩) 100001 100001]) ∧
    w'.ownsRow (w.heap.size + 1) 3 1 vp l.length ((placesL l g l.length).map iv) ∧ w'.rowIs w.heap.size 3 100001 (fun k => iv (atP l g k)) ∧ Below w.heap.size w w'
set_option maxHeartbeats 8000000 in
set_option maxRecDepth 100000 in
theorem places_any (l : List PL) (g : List Bool) (v vg : Value) (bg : Nat) (w : World) (h : LinesR w v l) (hg : LongR w vg bg l.length g) (ht : (refusedP l).2 = 0) :
    Calls Tryd.prog 19 #[v, vg] w (PlacesPost l g w) := by
  have HTK := Lib.hid (taken_of ht)
  have hn6 := taken_len ht
  have HMK := Lib.hid (run_make_int 100001 (by omega))
  obtain ⟨p, c, rfl⟩ := h.form
  obtain ⟨⟨cg, rfl, hcg1, hcg2⟩, hlg, hcellg⟩ := hg
  obtain ⟨n, hn⟩ : ∃ n, n = l.length := ⟨_, rfl⟩
  have HN := Lib.hid hn
  have HV := Lib.hid h
  rw [← hn] at hn6 hcg1 hcellg ⊢
  have HCG := Lib.hid hcellg
  clear h hn hcellg ht
  have hmk : (Instr.makeSlice 25 (.int .i64 100001) (.int .i64 100001)).run Tryd.prog w = .ok (.slice (some ⟨w.heap.size, 0, none⟩) 100001 100001) (w.alloc (.cells (madeCells #[.int .i64 0] 100001) 3)) := HMK.out w
  go_enter Tryd.func19, Tryd.ntmps19
  go_wp2
  clear hmk
  have HR0 := Lib.hid (World.rowIs_made w (.int .i64 0) 100001 3)
  have HB0 : Hid (Below w.heap.size w (w.alloc (.cells (madeCells #[.int .i64 0] 100001) 3))) := Lib.hid (below_one w _)
  have HS0 : Hid ((w.alloc (.cells (madeCells #[.int .i64 0] 100001) 3)).heap.size = w.heap.size + 1) := Lib.hid (by simp)
  generalize (w.alloc (.cells (madeCells #[.int .i64 0] 100001) 3)) = wm at HR0 HB0 HS0 ⊢
  go_loopw [8] (fun i wr => ∃ k : Nat, k ≤ 100001 ∧ i = .int .i64 k ∧ Hid (wr.rowIs w.heap.size 3 100001 (fun j => if j < k then iv (-1) else iv 0)) ∧ Hid (Below w.heap.size w wr) ∧ Hid (wr.heap.size = w.heap.size + 1)) (fun i _ => 100001 - (intOf i).toNat)
  case atStart => exact ⟨0, Nat.zero_le _, rfl, HR0, HB0, HS0⟩
  case round =>
    obtain ⟨k, hk, rfl, HR, HBR, HSR⟩ := hrel
    have i0 : (0 : Int) ≤ k := by omega
    by_cases hlt : k < 100001
    · have i1 : (k : Int) < 100001 := by omega
      have i2 : (k : Int) ≤ 100000 := by omega
      have c0 := HR.out.cell hlt
      have c1 := HR.out.frozen k
      go_wp2
      refine ⟨⟨k + 1, by omega, by go_num, ?_, ?_, ?_⟩, by simp [intOf]; omega⟩
      · exact Lib.hid ((HR.out.set k (iv (-1))).congr fun j hj => by
          by_cases e : j = k
          · subst e; simp
          · simp only [e, if_false]
            by_cases h2 : j < k
            · rw [if_pos h2, if_pos (by omega)]
            · rw [if_neg h2, if_neg (by omega)])
      · exact Lib.hid (HBR.out.setCell (Nat.le_refl _) _)
      · exact Lib.hid (by simpa [World.setCell] using HSR.out)
    · have i3 : (100001 : Int) ≤ k := by omega
      have i4 : (k : Int) ≤ 100001 := by omega
      have HKE : Hid (k = 100001) := Lib.hid (by omega)
      go_wp2
      have HR1 := Lib.hid (HR.out.congr (g := fun x => iv (labAt l g x 0)) fun j hj => by rw [if_pos (by have := HKE.out; omega), labAt_zero])
      have HS1 : Hid (w.heap.size + 1 ≤ wr.heap.size) := Lib.hid (by have := HSR.out; omega)
      clear i3 i4 i0 hk hlt
      go_loopw [9, 10, 11] (fun ov nv i wq => ∃ k : Nat, k ≤ n ∧ i = .int .i64 k ∧ nv = .int .i64 (placeP l g k : Int) ∧ Hid (wq.ownsRow (w.heap.size + 1) 3 1 ov k ((placesL l g k).map iv)) ∧ Hid (wq.rowIs w.heap.size 3 100001 (fun x => iv (labAt l g x k))) ∧ Hid (Below w.heap.size w wq) ∧ Hid (w.heap.size + 1 ≤ wq.heap.size)) (fun _ _ i _ => n - (intOf i).toNat)
      case atStart => exact ⟨0, Nat.zero_le _, rfl, rfl, Lib.hid (World.ownsRow_nil _ _ _ _), HR1, HBR, HS1⟩
      case round =>
        obtain ⟨k, hk, rfl, rfl, HO, HR, HBR, HSR⟩ := hrel
        by_cases hlt : k < n
        · obtain ⟨x, hx⟩ := getN HN.out hlt
          have hi : k < l.length := by have := HN.out; omega
          obtain ⟨gb, go_, gc, hv, hcc, hgl, hcell⟩ := SlR.form2 HV.out (by have := HN.out; omega)
          injection hv with hv hvn hv2
          clear hvn
          subst hv hv2
          obtain ⟨vl, hL⟩ := hcell k hi x hx
          have HLA := Lib.hid (lineAt_of hx)
          have hsz := size_bound HTK.out hi (longAt g k)
          have hpb := place_bound HTK.out g k (by omega)
          have hlab := label_range HTK.out hi
          have HST := Lib.hid (show placeP l g (k + 1) = placeP l g k + sizeP (lineAt l k) (longAt g k) from rfl)
          have HLL := Lib.hid (labAt_label (l := l) (g := g) (i := k))
          have HLO := Lib.hid (labAt_other (l := l) (g := g) (i := k))
          rw [HLA.out] at hsz hlab HST HLL HLO
          have hll := list_bound HTK.out hi
          rw [HLA.out] at hll
          have HZ := Lib.hid (fun (c : Nat) (p : Option Addr) (w : World) => size_any x p c (longAt g k) w (by omega))
          obtain ⟨i0, hi0, hz0, hz1, hz2⟩ := info_parts info_int
          have HI := Lib.hid hi0
          obtain ⟨pn, hpn⟩ : ∃ pn, pn = placeP l g k := ⟨_, rfl⟩
          rw [← hpn] at hpb
          have HPN := Lib.hid hpn
          rw [← hpn]
          obtain ⟨sz, hszz⟩ : ∃ sz, sz = sizeP x (longAt g k) := ⟨_, rfl⟩
          rw [← hszz] at hsz
          have HSZ := Lib.hid hszz
          have HBA := Lib.hid (HBR.out.alloc HBR.out.size (.cells #[iv (pn : Int)] 3))
          have HRA := Lib.hid (row_below HO.out (below_one wr (.cells #[iv (pn : Int)] 3)))
          have HNW := Lib.hid (news_one (w := wr) (x := (pn : Int)) rfl)
          have j0 : (0 : Int) ≤ k := by omega
          have j1 : (k : Int) < n := by omega
          have j2 : (n : Int) ≤ 9223372036854775807 := by omega
          have j3 : (n : Int) ≤ c := by have := HN.out; omega
          have j4 : (n : Int) ≤ cg := by omega
          have HW : Hid (IntKind.i64.wrap ((pn : Int) + sz) = (pn : Int) + sz) := Lib.hid (IntWalk.i64_in _ (by omega))
          obtain ⟨xop, xa, xb, ximm, xn, xlabel, xlist⟩ := x
          obtain ⟨q0, q1, q2, q3, q4, q5, q6, q7⟩ := hL
          obtain ⟨lp, lc, rfl⟩ := q7.form
          simp only at q0 q1 q2 q3 q4 q5 q6 hlab HLL HLO hll
          obtain ⟨nl, hnl⟩ : ∃ n, n = xlist.length := ⟨_, rfl⟩
          rw [← hnl] at q6
          have HNL := Lib.hid hnl
          have hgc := HCG.out k hlt
          have HQ := Lib.hid (And.intro q0 (And.intro q1 (And.intro q2 (And.intro q3 (And.intro q4 (And.intro q5 (And.intro q6 hgc)))))))
          clear q0 q1 q2 q3 q4 q5 q6 hgc hcell hx hszz hpn hi0 hnl q7
          have arm : ∀ (w5 : World), Below w.heap.size w w5 → gb < w5.heap.size := fun w5 h => Nat.lt_of_lt_of_le hgl h.size
          by_cases h0 : xop = 0
          · have g0 : (xop == 0) = true := by simpa using h0
            have hl0 := hlab h0
            obtain ⟨lab, rfl⟩ : ∃ m : Nat, xlabel = (m : Int) := ⟨xlabel.toNat, by omega⟩
            have l0 : (0 : Int) ≤ lab := by omega
            have l1 : (lab : Int) < 100001 := by omega
            have l2 : lab < 100001 := by omega
            have HL1 := Lib.hid (HLL.out h0)
            clear hl0 hlab h0 HLL HLO
            go_wp2_with (
              at_builtin
              go_loud (refine wpList_append_lies _ (by rfl) _ _ 25 (by rfl) (w.heap.size + 1) 3 i0 _ 1 8 Tryd.underlying25 HI.out hz0 hz1 hz2 rfl (by omega) _ k _ (by rfl) HRA.out ⟨wr.heap.size, 0, none⟩ 1 1 [iv (pn : Int)] (by rfl) rfl HNW.out (by simp [iv, Value.oneCell']) (by omega) (by unfold maxLen; omega) (by omega) (by have := HSR.out; simp; omega) _ rfl ?_)
              intro g5 c5 w5 h5 h6 _ _
              have H5 := Lib.hid h5
              have hb5 := Below.grown HBA.out h6 HBA.out.size (fun q hq => Nat.le_of_succ_le (World.ownsRow.lt HRA.out q hq).1)
              have H6 := Lib.hid hb5
              have hbb : Below (w.heap.size + 1) wr w5 := Below.grown (((Below.refl _ _).alloc HSR.out _)) h6 (by have := HSR.out; simp; omega) (fun q hq => (World.ownsRow.lt HRA.out q hq).1)
              have hr5 := HR.out.of_block (hbb.block w.heap.size (by omega))
              have HR5 := Lib.hid hr5
              have hs5 : w.heap.size + 1 ≤ w5.heap.size := Nat.le_trans HSR.out hbb.size
              obtain ⟨q0, q1, q2, q3, q4, q5, q6, q7⟩ := HQ.out
              replace q0 := (hb5.cell (p := ⟨gb, go_ + k * 7, none⟩) hgl).trans q0
              replace q1 := (hb5.cell (p := ⟨gb, go_ + k * 7 + 1, none⟩) hgl).trans q1
              replace q2 := (hb5.cell (p := ⟨gb, go_ + k * 7 + 2, none⟩) hgl).trans q2
              replace q3 := (hb5.cell (p := ⟨gb, go_ + k * 7 + 3, none⟩) hgl).trans q3
              replace q4 := (hb5.cell (p := ⟨gb, go_ + k * 7 + 4, none⟩) hgl).trans q4
              replace q5 := (hb5.cell (p := ⟨gb, go_ + k * 7 + 5, none⟩) hgl).trans q5
              replace q6 := (hb5.cell (p := ⟨gb, go_ + k * 7 + 6, none⟩) hgl).trans q6
              replace q7 := (hb5.cell (p := ⟨bg, k, none⟩) hlg).trans q7
              have hg5 := Nat.lt_of_lt_of_le hgl hb5.size
              have hl5 := Nat.lt_of_lt_of_le hlg hb5.size
              have e0 := hr5.cell l2
              have e1 := hr5.frozen lab
              clear h5 h6 hb5 hbb hr5)
            have H7 : Hid (Below w.heap.size w (w5.setCell ⟨w.heap.size, lab, none⟩ (.int .i64 pn))) := Lib.hid (H6.out.setCell (Nat.le_refl _) _)
            have HR7 : Hid ((w5.setCell ⟨w.heap.size, lab, none⟩ (.int .i64 pn)).rowIs w.heap.size 3 100001 (fun x => iv (labAt l g x (k + 1)))) := Lib.hid ((HR5.out.set lab (.int .i64 pn)).congr fun j hj => by
              rw [HL1.out]
              by_cases e : j = lab
              · subst e; rw [if_pos rfl, if_pos rfl, ← HPN.out]; rfl
              · rw [if_neg e, if_neg (by omega)])
            have HO7 : Hid ((w5.setCell ⟨w.heap.size, lab, none⟩ (.int .i64 pn)).ownsRow (w.heap.size + 1) 3 1 _ (k + 1) _) := Lib.hid (ownsRow_setCell_below H5.out (Nat.lt_succ_self _) _)
            have HS7 : Hid (w.heap.size + 1 ≤ (w5.setCell ⟨w.heap.size, lab, none⟩ (.int .i64 pn)).heap.size) := Lib.hid (by simpa [World.setCell] using hs5)
            clear q0 q1 q2 q3 q4 q5 q6 q7 hg5 hl5 e0 e1 hs5 HR5 H5 H6
            generalize (w5.setCell ⟨w.heap.size, lab, none⟩ (.int .i64 pn)) = w6 at H7 HR7 HO7 HS7 ⊢
            obtain ⟨q0, q1, q2, q3, q4, q5, q6, q7⟩ := HQ.out
            have hb6 := H7.out
            replace q0 := (hb6.cell (p := ⟨gb, go_ + k * 7, none⟩) hgl).trans q0
            replace q1 := (hb6.cell (p := ⟨gb, go_ + k * 7 + 1, none⟩) hgl).trans q1
            replace q2 := (hb6.cell (p := ⟨gb, go_ + k * 7 + 2, none⟩) hgl).trans q2
            replace q3 := (hb6.cell (p := ⟨gb, go_ + k * 7 + 3, none⟩) hgl).trans q3
            replace q4 := (hb6.cell (p := ⟨gb, go_ + k * 7 + 4, none⟩) hgl).trans q4
            replace q5 := (hb6.cell (p := ⟨gb, go_ + k * 7 + 5, none⟩) hgl).trans q5
            replace q6 := (hb6.cell (p := ⟨gb, go_ + k * 7 + 6, none⟩) hgl).trans q6
            replace q7 := (hb6.cell (p := ⟨bg, k, none⟩) hlg).trans q7
            have hg6 := Nat.lt_of_lt_of_le hgl hb6.size
            have hl6 := Nat.lt_of_lt_of_le hlg hb6.size
            clear hb6
            have hz := HZ.out
            rw [← HNL.out, ← HSZ.out] at hz
            have HZ2 := Lib.hid hz
            have hw := HW.out
            clear hz
            refine wp_region_grow (by kernel_rfl) (by kernel_rfl) ?_
            have hgr := grow_cell w6
            repeat (go_big_quiet_step ((go_at_call 40; refine Grow.call _ (HZ2.out _ _ _))))
            refine wpQuiet_nil ?_
            rintro _ ⟨⟨w7, hb7⟩, rfl⟩
            clear hgr q0 q1 q2 q3 q4 q5 q6 q7
            have HB7 := Lib.hid hb7
            clear hb7
            go_wp2
            refine ⟨⟨k + 1, by omega, by go_num, ?_, ?_, ?_, ?_, ?_⟩, by simp [intOf]; omega⟩
            · rw [HST.out, ← HPN.out, ← HSZ.out]; go_num
            · rw [placesL_succ, ← HPN.out, List.map_append]; exact Lib.hid (row_below HO7.out HB7.out)
            · exact Lib.hid (rowIs_below HR7.out HB7.out)
            · exact Lib.hid (bt H7.out (HB7.out))
            · exact Lib.hid (Nat.le_trans HS7.out HB7.out.size)
          · have g0 : (xop == 0) = false := by simpa using h0
            have HL1 := Lib.hid (HLO.out h0)
            clear hlab h0 HLL HLO
            go_wp2_with (
              at_builtin
              go_loud (refine wpList_append_lies _ (by rfl) _ _ 25 (by rfl) (w.heap.size + 1) 3 i0 _ 1 8 Tryd.underlying25 HI.out hz0 hz1 hz2 rfl (by omega) _ k _ (by rfl) HRA.out ⟨wr.heap.size, 0, none⟩ 1 1 [iv (pn : Int)] (by rfl) rfl HNW.out (by simp [iv, Value.oneCell']) (by omega) (by unfold maxLen; omega) (by omega) (by have := HSR.out; simp; omega) _ rfl ?_)
              intro g5 c5 w5 h5 h6 _ _
              have H5 := Lib.hid h5
              have hb5 := Below.grown HBA.out h6 HBA.out.size (fun q hq => Nat.le_of_succ_le (World.ownsRow.lt HRA.out q hq).1)
              have H6 := Lib.hid hb5
              have hbb : Below (w.heap.size + 1) wr w5 := Below.grown (((Below.refl _ _).alloc HSR.out _)) h6 (by have := HSR.out; simp; omega) (fun q hq => (World.ownsRow.lt HRA.out q hq).1)
              have hr5 := HR.out.of_block (hbb.block w.heap.size (by omega))
              have HR5 := Lib.hid hr5
              have hs5 : w.heap.size + 1 ≤ w5.heap.size := Nat.le_trans HSR.out hbb.size
              obtain ⟨q0, q1, q2, q3, q4, q5, q6, q7⟩ := HQ.out
              replace q0 := (hb5.cell (p := ⟨gb, go_ + k * 7, none⟩) hgl).trans q0
              replace q1 := (hb5.cell (p := ⟨gb, go_ + k * 7 + 1, none⟩) hgl).trans q1
              replace q2 := (hb5.cell (p := ⟨gb, go_ + k * 7 + 2, none⟩) hgl).trans q2
              replace q3 := (hb5.cell (p := ⟨gb, go_ + k * 7 + 3, none⟩) hgl).trans q3
              replace q4 := (hb5.cell (p := ⟨gb, go_ + k * 7 + 4, none⟩) hgl).trans q4
              replace q5 := (hb5.cell (p := ⟨gb, go_ + k * 7 + 5, none⟩) hgl).trans q5
              replace q6 := (hb5.cell (p := ⟨gb, go_ + k * 7 + 6, none⟩) hgl).trans q6
              replace q7 := (hb5.cell (p := ⟨bg, k, none⟩) hlg).trans q7
              have hg5 := Nat.lt_of_lt_of_le hgl hb5.size
              have hl5 := Nat.lt_of_lt_of_le hlg hb5.size
              clear h5 h6 hb5 hbb hr5)
            have H7 : Hid (Below w.heap.size w w5) := H6
            have HR7 : Hid (w5.rowIs w.heap.size 3 100001 (fun x => iv (labAt l g x (k + 1)))) := Lib.hid (HR5.out.congr fun j hj => by rw [HL1.out])
            have HO7 := H5
            have HS7 : Hid (w.heap.size + 1 ≤ w5.heap.size) := Lib.hid hs5
            clear q0 q1 q2 q3 q4 q5 q6 q7 hg5 hl5 hs5 HR5 H5 H6
            generalize w5 = w6 at H7 HR7 HO7 HS7 ⊢
            obtain ⟨q0, q1, q2, q3, q4, q5, q6, q7⟩ := HQ.out
            have hb6 := H7.out
            replace q0 := (hb6.cell (p := ⟨gb, go_ + k * 7, none⟩) hgl).trans q0
            replace q1 := (hb6.cell (p := ⟨gb, go_ + k * 7 + 1, none⟩) hgl).trans q1
            replace q2 := (hb6.cell (p := ⟨gb, go_ + k * 7 + 2, none⟩) hgl).trans q2
            replace q3 := (hb6.cell (p := ⟨gb, go_ + k * 7 + 3, none⟩) hgl).trans q3
            replace q4 := (hb6.cell (p := ⟨gb, go_ + k * 7 + 4, none⟩) hgl).trans q4
            replace q5 := (hb6.cell (p := ⟨gb, go_ + k * 7 + 5, none⟩) hgl).trans q5
            replace q6 := (hb6.cell (p := ⟨gb, go_ + k * 7 + 6, none⟩) hgl).trans q6
            replace q7 := (hb6.cell (p := ⟨bg, k, none⟩) hlg).trans q7
            have hg6 := Nat.lt_of_lt_of_le hgl hb6.size
            have hl6 := Nat.lt_of_lt_of_le hlg hb6.size
            clear hb6
            have hz := HZ.out
            rw [← HNL.out, ← HSZ.out] at hz
            have HZ2 := Lib.hid hz
            have hw := HW.out
            clear hz
            refine wp_region_grow (by kernel_rfl) (by kernel_rfl) ?_
            have hgr := grow_cell w6
            repeat (go_big_quiet_step ((go_at_call 40; refine Grow.call _ (HZ2.out _ _ _))))
            refine wpQuiet_nil ?_
            rintro _ ⟨⟨w7, hb7⟩, rfl⟩
            clear hgr q0 q1 q2 q3 q4 q5 q6 q7
            have HB7 := Lib.hid hb7
            clear hb7
            go_wp2
            refine ⟨⟨k + 1, by omega, by go_num, ?_, ?_, ?_, ?_, ?_⟩, by simp [intOf]; omega⟩
            · rw [HST.out, ← HPN.out, ← HSZ.out]; go_num
            · rw [placesL_succ, ← HPN.out, List.map_append]; exact Lib.hid (row_below HO7.out HB7.out)
            · exact Lib.hid (rowIs_below HR7.out HB7.out)
            · exact Lib.hid (bt H7.out (HB7.out))
            · exact Lib.hid (Nat.le_trans HS7.out HB7.out.size)
        · obtain rfl : k = n := by omega
          go_wp2
          go_ret3
          have HO2 := HO.out
          rw [HN.out] at HO2
          refine ⟨_, ?_, HO2, ?_, HBR.out⟩
          · rw [← HN.out]; rfl
          · refine HR.out.congr fun j _ => ?_
            rw [← labAt_all, ← HN.out]
end Go.Proofs.YtmnhafncdblklaaDoor.Relax
