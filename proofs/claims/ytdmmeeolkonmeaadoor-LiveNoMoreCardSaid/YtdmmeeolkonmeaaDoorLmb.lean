/- The law's first: what a block does first with a temp. No condition but that the block fits and its sizes. -/
import Derived.Test.YtdmmeeolkonmeaaDoorLma
namespace Go.Proofs.YtdmmeeolkonmeaaDoor.Live
open Go.RowKit Go.Proofs.YtdmmeeolkonmeaaDoor.Graph

def blkV (x : PBlk) (vk vc vt : Value) : Value := .agg #[vk, .int .i64 x.fin.kind, .int .i64 x.fin.op, .int .i64 x.fin.a, .int .i64 x.fin.b, .int .u32 x.fin.n, .int .i64 x.fin.to, .int .i64 x.fin.els, vc, vt]
theorem ins_op {m : Int} {x : PIns} (h : insFit m x = true) : 1 ≤ x.op ∧ x.op ≤ 32 := by
  unfold insFit at h
  simp only [Bool.and_eq_true, decide_eq_true_eq] at h
  exact ⟨h.1.1.1, h.1.1.2⟩
theorem end_kind {m : Int} {x : PBlk} (h : blkFit m x = true) : 1 ≤ x.fin.kind ∧ x.fin.kind ≤ 5 := by
  unfold blkFit endFit at h
  simp only [Bool.and_eq_true, decide_eq_true_eq] at h
  exact ⟨h.2.1.1, h.2.1.2⟩
theorem first_drop {e : PEnd} {t : Int} {l : List PIns} {k : Nat} {x : PIns} (hx : l[k]? = some x) : firstC e t (l.drop k) = if t ∈ usesI x then 1 else if setsT x = true ∧ x.d = t then 2 else firstC e t (l.drop (k + 1)) := by
  obtain ⟨hk, rfl⟩ := List.getElem?_eq_some_iff.1 hx
  rw [List.drop_eq_getElem_cons hk]; rfl
set_option maxHeartbeats 8000000 in
set_option maxRecDepth 100000 in
theorem first_any (x : PBlk) (m : Int) (vk vc vt : Value) (t : Int) (ht : 0 ≤ t) (w : World) (hf : blkFit m x = true) (hs : SmB x) (hc : CodeR w vk x.code) (he : EndL w vc vt x.fin) :
    Calls Tryd.prog 15 #[blkV x vk vc vt, .int .i64 t] w (Is (.int .i64 (firstB x t : Nat)) w) := by
  obtain ⟨kp, kc, rfl⟩ := hc.form
  obtain ⟨cp, cc, rfl⟩ := he.cases.form
  obtain ⟨tp, tc, rfl⟩ := he.targets.form
  have HC := Lib.hid hc
  have HF := Lib.hid hf
  have HS := Lib.hid hs
  have hKK := end_kind hf
  have HEU := Lib.hid (fun (w : World) => endUses_any x.fin cp tp x.fin.cases.length cc x.fin.targets.length tc w)
  rw [endUses_same hKK] at HEU
  have HT := Lib.hid ht
  obtain ⟨n, hn⟩ : ∃ n, n = x.code.length := ⟨_, rfl⟩
  have HN := Lib.hid hn
  unfold blkV
  rw [← hn]
  generalize x.fin.cases.length = cl at *
  generalize x.fin.targets.length = tl' at *
  clear hc he hf hs hn hKK ht
  go_enter Tryd.func15, Tryd.ntmps15
  go_wp2
  have HX1 : Hid ((w.alloc (.cells #[.slice kp n kc, .int .i64 x.fin.kind, .int .i64 x.fin.op, .int .i64 x.fin.a, .int .i64 x.fin.b, .int .u32 x.fin.n, .int .i64 x.fin.to, .int .i64 x.fin.els, .slice cp cl cc, .slice tp tl' tc] 42)).heap[w.heap.size]? = some (.cells #[.slice kp n kc, .int .i64 x.fin.kind, .int .i64 x.fin.op, .int .i64 x.fin.a, .int .i64 x.fin.b, .int .u32 x.fin.n, .int .i64 x.fin.to, .int .i64 x.fin.els, .slice cp cl cc, .slice tp tl' tc] 42 (0, 0))) := Lib.hid (heap_new w _)
  have HB1 := Lib.hid (Graph.below_alloc w (.cells #[.slice kp n kc, .int .i64 x.fin.kind, .int .i64 x.fin.op, .int .i64 x.fin.a, .int .i64 x.fin.b, .int .u32 x.fin.n, .int .i64 x.fin.to, .int .i64 x.fin.els, .slice cp cl cc, .slice tp tl' tc] 42))
  generalize w.alloc (.cells #[.slice kp n kc, .int .i64 x.fin.kind, .int .i64 x.fin.op, .int .i64 x.fin.a, .int .i64 x.fin.b, .int .u32 x.fin.n, .int .i64 x.fin.to, .int .i64 x.fin.els, .slice cp cl cc, .slice tp tl' tc] 42) = w1 at HX1 HB1 ⊢
  have HLT : Hid (w.heap.size < w1.heap.size) := Lib.hid (Array.getElem?_eq_some_iff.1 HX1.out).1
  have HCE : Hid (∀ W : World, Below w1.heap.size w1 W → W.cell? ⟨w.heap.size, 0, none⟩ = some (.slice kp n kc) ∧ W.cell? ⟨w.heap.size, 1, none⟩ = some (.int .i64 x.fin.kind) ∧ W.cell? ⟨w.heap.size, 2, none⟩ = some (.int .i64 x.fin.op) ∧ W.cell? ⟨w.heap.size, 3, none⟩ = some (.int .i64 x.fin.a) ∧ W.cell? ⟨w.heap.size, 4, none⟩ = some (.int .i64 x.fin.b) ∧ W.cell? ⟨w.heap.size, 5, none⟩ = some (.int .u32 x.fin.n) ∧ W.cell? ⟨w.heap.size, 6, none⟩ = some (.int .i64 x.fin.to) ∧ W.cell? ⟨w.heap.size, 7, none⟩ = some (.int .i64 x.fin.els) ∧ W.cell? ⟨w.heap.size, 8, none⟩ = some (.slice cp cl cc) ∧ W.cell? ⟨w.heap.size, 9, none⟩ = some (.slice tp tl' tc)) := Lib.hid (fun W hW => by
    have hb := (hW.block _ HLT.out).trans HX1.out
    exact ⟨(cell_of_block hb (k := 0) rfl).1, (cell_of_block hb (k := 1) rfl).1, (cell_of_block hb (k := 2) rfl).1, (cell_of_block hb (k := 3) rfl).1, (cell_of_block hb (k := 4) rfl).1, (cell_of_block hb (k := 5) rfl).1, (cell_of_block hb (k := 6) rfl).1, (cell_of_block hb (k := 7) rfl).1, (cell_of_block hb (k := 8) rfl).1, (cell_of_block hb (k := 9) rfl).1⟩)
  go_loopw [5] (fun i wr => ∃ k : Nat, k ≤ n ∧ i = .int .i64 k ∧ Hid (Below w1.heap.size w1 wr) ∧ Hid (firstB x t = firstC x.fin t (x.code.drop k))) (fun i _ => n - (intOf i).toNat)
  case atStart => exact ⟨0, Nat.zero_le _, rfl, Lib.hid (Below.refl _ _), Lib.hid (by rw [List.drop_zero]; rfl)⟩
  case round =>
    obtain ⟨k, hk, rfl, HB, HA⟩ := hrel
    obtain ⟨y0, y1, y2, y3, y4, y5, y6, y7, y8, y9⟩ := HCE.out wr HB.out
    by_cases hkn : k < n
    · obtain ⟨y, hy⟩ : ∃ y, x.code[k]? = some y := ⟨_, List.getElem?_eq_getElem (by have := HN.out; omega)⟩
      obtain ⟨g, o, cap, hv, hcap, hgl, hP⟩ := SlR.form2 HC.out (by have := HN.out; omega)
      injection hv with e1 _ e3
      subst e1 e3
      have hBW : Below w.heap.size w wr := below_then HB1.out HB.out
      obtain ⟨va, vr, hR0⟩ := hP k (by have := HN.out; omega) y hy
      have hR := hR0.below hgl hBW
      have ki : (k : Int) < n := by omega
      have k0 : (0 : Int) ≤ k := by omega
      have k2 : (n : Int) ≤ kc := by have := hcap.1; have := HN.out; omega
      have k3 : (kc : Int) ≤ 9223372036854775807 := by have := hcap.2; omega
      have hop := ins_op (blk_ins HF.out hy)
      have HUS := Lib.hid (fun (W : World) (hW : Below wr.heap.size wr W) => usesI_any y va vr W (hR.l.below hW) hop (by have := (HS.out.2.1 y (List.mem_of_getElem? hy)).1; unfold reachBytes at this; omega))
      have HST := Lib.hid (fun (W : World) (hW : Below wr.heap.size wr W) => Graph.sets_any y va vr W (hR.l.below hW))
      unfold insV at HUS HST
      obtain ⟨z0, z1, z2, z3, z4, z5, z6, z7, _⟩ := hR
      have HZ : Hid (∀ W : World, Below wr.heap.size wr W → W.cell? ⟨g, o + k * 8, none⟩ = some (.int .i64 y.op) ∧ W.cell? ⟨g, o + k * 8 + 1, none⟩ = some (.int .i64 y.d) ∧ W.cell? ⟨g, o + k * 8 + 2, none⟩ = some (.int .i64 y.a) ∧ W.cell? ⟨g, o + k * 8 + 3, none⟩ = some (.int .i64 y.b) ∧ W.cell? ⟨g, o + k * 8 + 4, none⟩ = some (.int .i64 y.f) ∧ W.cell? ⟨g, o + k * 8 + 5, none⟩ = some (.int .u32 y.n) ∧ W.cell? ⟨g, o + k * 8 + 6, none⟩ = some va ∧ W.cell? ⟨g, o + k * 8 + 7, none⟩ = some vr) := Lib.hid (fun W hW => by
        have hg2 : g < wr.heap.size := Nat.lt_of_lt_of_le hgl hBW.size
        exact ⟨(cell_below hW hg2 _).trans z0, (cell_below hW hg2 _).trans z1, (cell_below hW hg2 _).trans z2, (cell_below hW hg2 _).trans z3, (cell_below hW hg2 _).trans z4, (cell_below hW hg2 _).trans z5, (cell_below hW hg2 _).trans z6, (cell_below hW hg2 _).trans z7⟩)
      have HSS := Lib.hid (sets_same (x := y) hop HT.out)
      have HFD := Lib.hid (first_drop (e := x.fin) (t := t) hy)
      obtain ⟨_, _, hva⟩ := (hR0.l.args).form
      obtain ⟨_, _, hvr⟩ := (hR0.l.arrs).form
      clear hR0 hy hP hcap hop hBW
      subst hva hvr
      obtain ⟨q, hq⟩ : ∃ q, q = setsI y := ⟨_, rfl⟩
      rw [← hq] at HST HSS
      clear hq
      by_cases hu : t ∈ usesI y
      · have hd : Hid (decide (t ∈ usesI y) = true) := Lib.hid (decide_eq_true hu)
        have hr : Hid (firstB x t = 1) := Lib.hid (by rw [HA.out, HFD.out, if_pos hu])
        clear hu
        go_wp2_with (first
          | (go_at_call 37
             refine (HUS.out _ (Below.refl _ _)).mono ?_
             rintro e w2 ⟨p2, n2, c2, rfl, h2, hb2⟩
             have H2 := Lib.hid h2
             have HB2 := Lib.hid hb2
             clear h2 hb2)
          | (go_at_call 17
             refine (inList_any _ _ t _ H2.out).mono ?_
             rintro e w3 ⟨rfl, rfl⟩
             rw [hd.out]))
        go_ret
        exact ⟨by rw [hr.out]; rfl, below_then HB1.out (below_then HB.out HB2.out)⟩
      · have hd : Hid (decide (t ∈ usesI y) = false) := Lib.hid (decide_eq_false hu)
        by_cases hst : setsT y = true ∧ y.d = t
        · have hqt : (q == t) = true := by simpa using HSS.out.2 hst
          have hr : Hid (firstB x t = 2) := Lib.hid (by rw [HA.out, HFD.out, if_neg hu, if_pos hst])
          clear hu hst
          go_wp2_with (first
            | (go_at_call 37
               refine (HUS.out _ (Below.refl _ _)).mono ?_
               rintro e w2 ⟨p2, n2, c2, rfl, h2, hb2⟩
               have H2 := Lib.hid h2
               have HB2 := Lib.hid hb2
               obtain ⟨y0, _⟩ := HCE.out w2 (below_then HB.out hb2)
               obtain ⟨z0, z1, z2, z3, z4, z5, z6, z7⟩ := HZ.out w2 hb2
               clear h2 hb2)
            | (go_at_call 17
               refine (inList_any _ _ t _ H2.out).mono ?_
               rintro e w3 ⟨rfl, rfl⟩
               rw [hd.out])
            | (go_at_call 38
               refine (HST.out _ HB2.out).mono ?_
               rintro e w4 ⟨rfl, hb4⟩
               have HB4 := Lib.hid hb4
               clear hb4))
          go_ret
          exact ⟨by rw [hr.out]; rfl, below_then HB1.out (below_then HB.out (below_then HB2.out HB4.out))⟩
        · have hqt : (q == t) = false := by simpa using fun h => hst (HSS.out.1 h)
          have hr : Hid (firstB x t = firstC x.fin t (x.code.drop (k + 1))) := Lib.hid (by rw [HA.out, HFD.out, if_neg hu, if_neg hst])
          clear hu hst
          go_wp2_with (first
            | (go_at_call 37
               refine (HUS.out _ (Below.refl _ _)).mono ?_
               rintro e w2 ⟨p2, n2, c2, rfl, h2, hb2⟩
               have H2 := Lib.hid h2
               have HB2 := Lib.hid hb2
               obtain ⟨y0, _⟩ := HCE.out w2 (below_then HB.out hb2)
               obtain ⟨z0, z1, z2, z3, z4, z5, z6, z7⟩ := HZ.out w2 hb2
               clear h2 hb2)
            | (go_at_call 17
               refine (inList_any _ _ t _ H2.out).mono ?_
               rintro e w3 ⟨rfl, rfl⟩
               rw [hd.out])
            | (go_at_call 38
               refine (HST.out _ HB2.out).mono ?_
               rintro e w4 ⟨rfl, hb4⟩
               have HB4 := Lib.hid hb4
               clear hb4))
          exact ⟨⟨k + 1, by omega, by go_num, Lib.hid (below_then HB.out (below_then HB2.out HB4.out)), hr⟩, by simp [intOf]; omega⟩
    · have hkn2 : k = n := by omega
      have hki : ¬ ((k : Int) < n) := by omega
      by_cases hu : t ∈ usesE x.fin
      · have hd : Hid (decide (t ∈ usesE x.fin) = true) := Lib.hid (decide_eq_true hu)
        have hr : Hid (firstB x t = 1) := Lib.hid (by rw [HA.out, hkn2, HN.out, List.drop_length]; unfold firstC; rw [if_pos hu])
        clear hu
        go_wp2_with (first
          | (go_at_call 39
             refine (HEU.out _).mono ?_
             rintro e w2 ⟨p2, n2, c2, rfl, h2, hb2⟩
             have H2 := Lib.hid h2
             have HB2 := Lib.hid hb2
             clear h2 hb2)
          | (go_at_call 17
             refine (inList_any _ _ t _ H2.out).mono ?_
             rintro e w3 ⟨rfl, rfl⟩
             rw [hd.out]))
        go_ret
        exact ⟨by rw [hr.out]; rfl, below_then HB1.out (below_then HB.out HB2.out)⟩
      · have hd : Hid (decide (t ∈ usesE x.fin) = false) := Lib.hid (decide_eq_false hu)
        have hr : Hid (firstB x t = 0) := Lib.hid (by rw [HA.out, hkn2, HN.out, List.drop_length]; unfold firstC; rw [if_neg hu])
        clear hu
        go_wp2_with (first
          | (go_at_call 39
             refine (HEU.out _).mono ?_
             rintro e w2 ⟨p2, n2, c2, rfl, h2, hb2⟩
             have H2 := Lib.hid h2
             have HB2 := Lib.hid hb2
             clear h2 hb2)
          | (go_at_call 17
             refine (inList_any _ _ t _ H2.out).mono ?_
             rintro e w3 ⟨rfl, rfl⟩
             rw [hd.out]))
        go_ret
        exact ⟨by rw [hr.out]; rfl, below_then HB1.out (below_then HB.out HB2.out)⟩
end Go.Proofs.YtdmmeeolkonmeaaDoor.Live
