/- The document's copyGraph, at any graph: the walk. -/
import Derived.Test.YtcijaaiopfbffaaDoorKC2
import Derived.Test.YtcijaaiopfbffaaDoorVN
namespace Go.Proofs.YtcijaaiopfbffaaDoor.Graph
open Go.RowKit

theorem infoBlk : (Tryd.prog.info? 42).map (fun i => (i.zero.map (·.cells.size), i.size, i.bytes)) = some (some 10, 10, 128) := by kernel_rfl
theorem info_parts0 {P : Program} {t : TypeId} {s n b : Nat} (h : (P.info? t).map (fun i => (i.zero.map (·.cells.size), i.size, i.bytes)) = some (some s, n, b)) : ∃ i z, P.info? t = some i ∧ i.zero = some z ∧ z.cells.size = s ∧ i.size = n ∧ i.bytes = b := by
  obtain ⟨i, h1, h2⟩ := Option.map_eq_some_iff.1 h
  injection h2 with h2 h3
  injection h3 with h3 h4
  obtain ⟨z, h5, h6⟩ := Option.map_eq_some_iff.1 h2
  exact ⟨i, z, h1, h5, h6, h3, h4⟩
set_option maxHeartbeats 8000000 in
set_option maxRecDepth 100000 in
theorem copyGraph_any (x : PGr) (vp va vb : Value) (w : World) (hL : GrL w vp va vb x) (hs : SmG x) :
    Calls Tryd.prog 51 #[grV x vp va vb] w (CopiedG x w) := by
  obtain ⟨s1, s2, s3, s4⟩ := hs
  have HL := Lib.hid hL
  obtain ⟨pp, pc, rfl⟩ := hL.params.form
  obtain ⟨ap, ac, rfl⟩ := hL.arrays.form
  obtain ⟨bp, bc, rfl⟩ := hL.blocks.form
  have HS1 := Lib.hid s1
  have HS2 := Lib.hid s2
  have HS3 := Lib.hid s3
  have HS4 := Lib.hid s4
  clear hL s1 s2 s3 s4
  unfold CopiedG grV
  go_enter Tryd.func51, Tryd.ntmps51
  go_upto_region 1 with (fail)
  obtain ⟨cur, hcur⟩ : ∃ cur : Array Value, cur = #[.slice pp x.params.length pc, .int .i64 x.temps, .slice ap x.arrays.length ac, .slice bp x.blocks.length bc] := ⟨_, rfl⟩
  rw [← hcur]
  have c0 : cur[0]? = some (.slice pp x.params.length pc) := by rw [hcur]; rfl
  have c1 : cur[1]? = some (.int .i64 x.temps) := by rw [hcur]; rfl
  have c2 : cur[2]? = some (.slice ap x.arrays.length ac) := by rw [hcur]; rfl
  have c3 : cur[3]? = some (.slice bp x.blocks.length bc) := by rw [hcur]; rfl
  have hb1 := below_then (below_alloc w (.cells cur 26)) (below_alloc (w.alloc (.cells cur 26)) (.cells #[.slice none 0 0, .int .i64 0, .slice none 0 0, .slice none 0 0] 26))
  have hrow : ((w.alloc (.cells cur 26)).alloc (.cells #[.slice none 0 0, .int .i64 0, .slice none 0 0, .slice none 0 0] 26)).heap[w.heap.size]? = some (.cells cur 26 (0, 0)) := ((below_alloc (w.alloc (.cells cur 26)) _).block w.heap.size (by simp [World.size_alloc])).trans (heap_new w _)
  have hres : ((w.alloc (.cells cur 26)).alloc (.cells #[.slice none 0 0, .int .i64 0, .slice none 0 0, .slice none 0 0] 26)).heap[w.heap.size + 1]? = some (.cells #[.slice none 0 0, .int .i64 0, .slice none 0 0, .slice none 0 0] 26 (0, 0)) := by
    have h := heap_new (w.alloc (.cells cur 26)) (.cells #[.slice none 0 0, .int .i64 0, .slice none 0 0, .slice none 0 0] 26)
    rw [World.size_alloc] at h
    exact h
  have hsz : ((w.alloc (.cells cur 26)).alloc (.cells #[.slice none 0 0, .int .i64 0, .slice none 0 0, .slice none 0 0] 26)).heap.size = w.heap.size + 2 := by rw [World.size_alloc, World.size_alloc]
  generalize hw1 : (w.alloc (.cells cur 26)).alloc (.cells #[.slice none 0 0, .int .i64 0, .slice none 0 0, .slice none 0 0] 26) = w1
  rw [hw1] at hb1 hrow hres hsz
  have H1 := Lib.hid hb1
  have HSZ := Lib.hid hsz
  have HROW := Lib.hid hrow
  have HRES := Lib.hid hres
  have HC := Lib.hid (And.intro c0 (And.intro c1 (And.intro c2 c3)))
  have HI := Lib.hid (fun (wx : World) (hx : Below w.heap.size w wx) => refInts_any x.params pp pc wx (HL.out.params.below hx) (by have := HS1.out; unfold reachBytes at this; omega))
  obtain ⟨g, hg⟩ : ∃ g, g = w.heap.size := ⟨_, rfl⟩
  have HGE := Lib.hid hg
  rw [← hg] at hrow hres
  rw [← hg]
  have hl : g < w1.heap.size := lt_of_block hrow
  obtain ⟨b1, f1⟩ := cell_of_block hrow c0
  obtain ⟨b3, f3⟩ := cell_of_block hrow c1
  clear hw1 hg hrow hres hb1 hsz c0 c1 c2 c3 hcur
  go_cut [3] (fun v wc => ∃ c, v = .pointer (some ⟨c, 0, none⟩) ∧ Hid (∃ G pq pc, StG x w cur c G pq pc wc))
  case first =>
    have hn0 : w1.heap.size ≠ g := Nat.ne_of_gt hl
    go_region_held3 (fun w' => w'.cell? ⟨g, 0, none⟩ = some (.slice pp x.params.length pc) ∧ w'.cell? ⟨g, 1, none⟩ = some (.int .i64 x.temps)) (go_keep)
      (first
        | (go_at_call 50; refine (HI.out _ H1.out.drew).mono ?_; rintro e wa ⟨q, d, rfl, l, hb⟩
           have hk : Below w1.heap.size w1 wa := (Below.refl _ w1).drew.trans hb
           have HST := Lib.hid (StG.first (x := x) H1.out (Nat.le_of_eq HSZ.out.symm) HROW.out HRES.out hk l)
           have x1 := (hk.cell (p := ⟨g, 0, none⟩) hl).trans b1
           have x3 := (hk.cell (p := ⟨g, 1, none⟩) hl).trans b3
           have hla : g < wa.heap.size := Nat.lt_of_lt_of_le hl hk.size)
        | (go_at_call 50; refine (HI.out _ (H1.out.alloc H1.out.size _).drew).mono ?_; rintro e wa ⟨q, d, rfl, l, hb⟩
           have hk2 := (Below.refl _ (w1.alloc (.cells #[.slice none 0 0, .int .i64 0, .slice none 0 0, .slice none 0 0] 26))).drew.trans hb
           have hk : Below w1.heap.size w1 wa := below_then (below_alloc w1 _) hk2
           have x1 := (hk.cell (p := ⟨g, 0, none⟩) hl).trans b1
           have x3 := (hk.cell (p := ⟨g, 1, none⟩) hl).trans b3
           have hla : g < wa.heap.size := Nat.lt_of_lt_of_le hl hk.size
           have hnew := (hb.block w1.heap.size (by simp [World.size_alloc])).trans (heap_new w1 _)
           have hst := set_row4 (.slice q x.params.length d) (.int .i64 x.temps) (.slice none 0 0) (.slice none 0 0) hnew
           have HST := Lib.hid (StG.second (x := x) H1.out (Nat.le_of_eq HSZ.out.symm) HROW.out HRES.out (below_alloc w1 _) (World.size_alloc _ _) hk2 l hst.1 hst.2)
           obtain ⟨a0, e0⟩ := cell_of_block hnew (k := 0) rfl
           obtain ⟨a1, e1⟩ := cell_of_block hnew (k := 1) rfl
           obtain ⟨a2, e2⟩ := cell_of_block hnew (k := 2) rfl
           obtain ⟨a3, e3⟩ := cell_of_block hnew (k := 3) rfl
           have hla2 : w1.heap.size < wa.heap.size := lt_of_block hnew
           clear hnew hst))
    all_goals
      clear hb l hk
      go_wp2_with fail
      go_meet
      refine ⟨_, rfl, ?_⟩
      obtain ⟨G, hG⟩ := HST.out
      exact Lib.hid ⟨G, _, _, hG⟩
  case rest =>
  obtain ⟨c, rfl, HST⟩ := hcut
  obtain ⟨G0, pq0, pc0, hst⟩ := HST.out
  have hbox := hst.box
  rw [← HGE.out] at hbox
  clear b1 b3 f1 f3
  obtain ⟨b0, _⟩ := cell_of_block hbox HC.out.2.2.1
  obtain ⟨z0, e0⟩ := cell_of_block hst.cell (k := 2) rfl
  have hlg : g < wc.heap.size := lt_of_block hbox
  have hlc : c < wc.heap.size := lt_of_block hst.cell
  have HCEL := Lib.hid hst.cell
  have HS0 := Lib.hid hst
  clear hst hbox
  go_upto_region 2 with (fail)
  go_cut [3] (fun v wd => v = .pointer (some ⟨c, 0, none⟩) ∧ Hid (∃ G pq aq pc ac, OutG x w cur c G pq aq none pc ac 0 0 wd))
  case first =>
    rcases Nat.eq_zero_or_pos x.arrays.length with h0 | h0
    · have HM : Hid (∃ G pq aq pc ac, OutG x w cur c G pq aq none pc ac 0 0 (wc.setCell ⟨c, 2, none⟩ (.slice none 0 0))) := Lib.hid (by
        have h := StG.arrays (aq := none) (ac := 0) HS0.out (Below.refl _ _) (.inl ⟨h0, _, _, by rw [h0]⟩) rfl
        rw [h0] at h
        obtain ⟨G, h⟩ := h
        exact ⟨G, _, _, _, _, h⟩)
      rw [h0] at b0
      go_wp2_with (
        at_builtin
        refine wpList_append_nil0 (by rfl) _ _ 23 (by rfl) 59 2 Tryd.underlying23 (by kernel_rfl) ac ap (by rfl) (by rfl) ?_)
      go_meet
      exact ⟨rfl, HM⟩
    · obtain ⟨gb, go, gc', hv, hcap, hgl, _⟩ := SlR.form2 HL.out.arrays h0
      injection hv with hv hle hce
      subst hv hce
      clear hle
      have HW : Hid (ArrsR wc (.slice (some ⟨gb, go, none⟩) x.arrays.length ac) x.arrays) := Lib.hid (HL.out.arrays.below HS0.out.old)
      have HNW := Lib.hid (news_arrs HW.out)
      have HR0 : Hid (wc.ownsRow wc.heap.size 59 2 (.slice none 0 0) 0 []) := Lib.hid (World.ownsRow_nil _ _ _ _)
      obtain ⟨i0, hi, hz0, hz1, hz2⟩ := info_parts info_arr
      have HI0 := Lib.hid hi
      obtain ⟨n, hn⟩ : ∃ n, n = x.arrays.length := ⟨_, rfl⟩
      have HN := Lib.hid hn
      have hnb : n * 16 ≤ 140737488355328 := by have := HS2.out; unfold reachBytes at this; omega
      rw [← hn] at b0 h0
      clear hn hi hgl
      go_wp2_with (
        at_builtin
        go_loud (refine wpList_append_lies _ (by rfl) _ _ 23 (by rfl) wc.heap.size 59 i0 _ 2 16 Tryd.underlying23 HI0.out hz0 hz1 hz2 rfl (by omega) _ 0 _ (by rfl) HR0.out ⟨gb, go, none⟩ n ac (arrCs x.arrays) (by rfl) (by rw [arrCs_len, HN.out]) HNW.out mem_arrs h0 (by unfold maxLen; omega) (by omega) (Nat.le_refl _) _ rfl ?_)
        intro g5 c5 w5 h5 h6 h7 h8
        have H5 := Lib.hid h5
        have hb5 : Below wc.heap.size wc w5 := Below.grown (Below.refl _ wc) h6 (Nat.le_refl _) (fun q hq => by cases hq)
        have H6 := Lib.hid hb5
        have x0 := (hb5.cell (p := ⟨c, 2, none⟩) hlc).trans z0
        have y0 : w5.frozen? ⟨c, 2, none⟩ = false := by unfold World.frozen? at e0 ⊢; rw [hb5.block c hlc]; exact e0
        have hl5 : c < w5.heap.size := Nat.lt_of_lt_of_le hlc hb5.size
        clear h5 h6 h7 h8 hb5)
      go_meet
      refine ⟨rfl, Lib.hid ?_⟩
      have hnn := HN.out
      have h5 := H5.out
      rw [Nat.zero_add, List.nil_append] at h5
      subst hnn
      obtain ⟨G, h⟩ := StG.arrays HS0.out H6.out (arrs_of_own h5 h0) rfl
      exact ⟨G, _, _, _, _, h⟩
  case rest =>
  obtain ⟨rfl, HM0⟩ := hcut
  obtain ⟨n, hn⟩ : ∃ n, n = x.blocks.length := ⟨_, rfl⟩
  have HN := Lib.hid hn
  have hnb : n * 128 ≤ 140737488355328 := by have := HS3.out; unfold reachBytes at this; omega
  have hnI : (n : Int) ≤ 9223372036854775807 := by omega
  clear hn b0 z0 e0 hlg hlc HCEL HS0 HST
  go_wp2
  go_loopw [4] (fun i wr => ∃ k : Nat, k ≤ n ∧ i = .int .i64 k ∧ Hid (∃ G pq aq bq pc ac bc, OutG x w cur c G pq aq bq pc ac bc k wr)) (fun i _ => n - (intOf i).toNat)
  case atStart =>
    obtain ⟨G, pq, aq, pc, ac, h⟩ := HM0.out
    exact ⟨0, Nat.zero_le _, rfl, Lib.hid ⟨G, _, _, _, _, _, _, h⟩⟩
  case round =>
    obtain ⟨k, hk, rfl, HK⟩ := hrel
    obtain ⟨G, pq, aq, bq, pc, ac, bc', hm⟩ := HK.out
    have hbox := hm.box
    rw [← HGE.out] at hbox
    obtain ⟨b3, _⟩ := cell_of_block hbox HC.out.2.2.2
    rw [← HN.out] at b3
    have hlg : g < wr.heap.size := lt_of_block hbox
    have HM := Lib.hid hm
    clear hm hbox
    by_cases hlt : k < n
    · obtain ⟨qb, qo, fc', hv, hcap, hfl, hcell⟩ := SlR.form2 HL.out.blocks (by have := HN.out; omega)
      injection hv with hv hle hce
      subst hv hce
      clear hle
      have hkl : k < x.blocks.length := by have := HN.out; omega
      obtain ⟨vk, vc, vt, hbk⟩ := hcell k hkl _ (List.getElem?_eq_getElem hkl)
      obtain ⟨bk, hy⟩ : ∃ bk, x.blocks[k] = bk := ⟨_, rfl⟩
      rw [hy] at hbk
      have HX : Hid (x.blocks[k]? = some bk) := Lib.hid (by rw [← hy]; exact List.getElem?_eq_getElem hkl)
      have HSB : Hid (SmB bk) := Lib.hid (HS4.out bk (by rw [← hy]; exact List.getElem_mem hkl))
      have hbk2 := hbk.below hfl HM.out.old
      obtain ⟨kp, kc, rfl⟩ := hbk.code.form
      obtain ⟨cp, cc, rfl⟩ := hbk.fin.l.cases.form
      obtain ⟨tp, tc, rfl⟩ := hbk.fin.l.targets.form
      have HBK := Lib.hid hbk
      have HBK2 := Lib.hid hbk2
      have c1 := hbk2.fin.kind
      have c2 := hbk2.fin.op
      have c3 := hbk2.fin.fa
      have c4 := hbk2.fin.fb
      have c5 := hbk2.fin.n
      have c6 := hbk2.fin.to
      have c7 := hbk2.fin.els
      have c8 := hbk2.fin.cc
      have c9 := hbk2.fin.ct
      have hfw : qb < wr.heap.size := Nat.lt_of_lt_of_le hfl HM.out.old.size
      have HFL := Lib.hid hfl
      have k0 : (0 : Int) ≤ k := by omega
      have k1 : (k : Int) < n := by omega
      have k2 : (n : Int) ≤ bc := by have := HN.out; omega
      clear hcap hcell hbk hbk2 hy hkl hfl
      go_upto_region 7 with (fail)
      have hn5 := heap_new wr (.cells #[.slice none 0 0, .int .i64 bk.fin.kind, .int .i64 bk.fin.op, .int .i64 bk.fin.a, .int .i64 bk.fin.b, .int .u32 bk.fin.n, .int .i64 bk.fin.to, .int .i64 bk.fin.els, .slice cp bk.fin.cases.length cc, .slice tp bk.fin.targets.length tc] 42)
      have hb5 := below_alloc wr (.cells #[.slice none 0 0, .int .i64 bk.fin.kind, .int .i64 bk.fin.op, .int .i64 bk.fin.a, .int .i64 bk.fin.b, .int .u32 bk.fin.n, .int .i64 bk.fin.to, .int .i64 bk.fin.els, .slice cp bk.fin.cases.length cc, .slice tp bk.fin.targets.length tc] 42)
      have hs5 : (wr.alloc (.cells #[.slice none 0 0, .int .i64 bk.fin.kind, .int .i64 bk.fin.op, .int .i64 bk.fin.a, .int .i64 bk.fin.b, .int .u32 bk.fin.n, .int .i64 bk.fin.to, .int .i64 bk.fin.els, .slice cp bk.fin.cases.length cc, .slice tp bk.fin.targets.length tc] 42)).heap.size = wr.heap.size + 1 := World.size_alloc _ _
      generalize hw5 : wr.alloc (.cells #[.slice none 0 0, .int .i64 bk.fin.kind, .int .i64 bk.fin.op, .int .i64 bk.fin.a, .int .i64 bk.fin.b, .int .u32 bk.fin.n, .int .i64 bk.fin.to, .int .i64 bk.fin.els, .slice cp bk.fin.cases.length cc, .slice tp bk.fin.targets.length tc] 42) = w5
      rw [hw5] at hn5 hb5 hs5
      obtain ⟨g5, hg5⟩ : ∃ g5, g5 = wr.heap.size := ⟨_, rfl⟩
      rw [← hg5] at hn5 hs5
      rw [← hg5]
      have HG5 := Lib.hid hg5
      have HN5 := Lib.hid hn5
      have HB5 := Lib.hid hb5
      have HS5 := Lib.hid hs5
      have B3 := Lib.hid b3
      replace b3 := (hb5.cell (p := ⟨g, 3, none⟩) hlg).trans b3
      have hlg5 : g < w5.heap.size := Nat.lt_of_lt_of_le hlg hb5.size
      have x9 := (hb5.cell (p := ⟨qb, qo + k * 10 + 1 + 8, none⟩) hfw).trans c9
      have x8 := (hb5.cell (p := ⟨qb, qo + k * 10 + 1 + 7, none⟩) hfw).trans c8
      have hfw5 : qb < w5.heap.size := Nat.lt_of_lt_of_le hfw hb5.size
      have HLG := Lib.hid (And.intro hlg hfw)
      clear hw5 hg5 hn5 hb5 hs5 c1 c2 c3 c4 c5 c6 c7 c8 c9 hlg hfw
      go_upto_region 8 with (
        go_at_call 50
        fail)
      refine (refInts_any bk.fin.targets tp tc w5 (HBK2.out.fin.l.targets.below HB5.out) (by have := HSB.out.2.2.2; unfold reachBytes at this; omega)).mono ?_
      rintro e wa ⟨q9, d9, rfl, l9, hb9⟩
      have L9 := Lib.hid l9
      have HB9 := Lib.hid hb9
      have hka := (hb9.block g5 (lt_of_block HN5.out)).trans HN5.out
      obtain ⟨a9, f9⟩ := cell_of_block hka (k := 9) rfl
      have hla := lt_of_block hka
      clear l9 hb9
      go_upto_region 8 with (fail)
      have hkb := heap_setCell_same wa g5 9 _ _ (.slice q9 bk.fin.targets.length d9) hka
      obtain ⟨a8, f8⟩ := cell_of_block hkb (k := 8) rfl
      have hlb := lt_of_block hkb
      clear a9 f9 hla
      go_upto_region 9 with (fail)
      have hkc := heap_setCell_same _ g5 8 _ _ (.slice none 0 0) hkb
      generalize hw7 : (wa.setCell ⟨g5, 9, none⟩ (.slice q9 bk.fin.targets.length d9)).setCell ⟨g5, 8, none⟩ (.slice none 0 0) = w7
      have HW7 := Lib.hid hw7
      rw [hw7] at hkc
      have B7 : Hid (Below wr.heap.size wr w7) := Lib.hid (by
        rw [← HW7.out]
        exact Below.grown HB5.out (grown_step (grown_step (World.grownBy.refl w5 (some g5)) HB9.out) (Below.refl _ _)) HB5.out.size (fun j hj => by injection hj with hj; have := HG5.out; omega))
      obtain ⟨a8', f8'⟩ := cell_of_block hkc (k := 8) rfl
      have hl7 : g5 < w7.heap.size := lt_of_block hkc
      clear a8 f8 hlb hka hkb hkc hw7 b3 x9 x8 hlg5 hfw5
      obtain ⟨b3, _⟩ : w7.cell? ⟨g, 3, none⟩ = some (.slice (some ⟨qb, qo, none⟩) n bc) ∧ True := ⟨(B7.out.cell (p := ⟨g, 3, none⟩) HLG.out.1).trans B3.out, trivial⟩
      have x8 := (B7.out.cell (p := ⟨qb, qo + k * 10 + 1 + 7, none⟩) HLG.out.2).trans HBK2.out.fin.cc
      have hlg7 : g < w7.heap.size := Nat.lt_of_lt_of_le HLG.out.1 B7.out.size
      have hfw7 : qb < w7.heap.size := Nat.lt_of_lt_of_le HLG.out.2 B7.out.size
      have hn1 : g5 ≠ g := by have := HG5.out; have := HLG.out.1; omega
      have hn2 : g5 ≠ qb := by have := HG5.out; have := HLG.out.2; omega
      go_cut [5] (fun v wd => v = .pointer (some ⟨g5, 0, none⟩) ∧ Hid (∃ G cq tq cc tc, InB bk wr g5 G none cq tq 0 cc tc 0 wd))
      case first =>
        rcases Nat.eq_zero_or_pos bk.fin.cases.length with h0 | h0
        · rw [h0] at x8
          go_region_law (refine step_append_nil0 (by rfl) _ _ 38 (by rfl) 83 2 Tryd.underlying38 (by kernel_rfl) cc cp (by rfl) (by rfl) ?_)
          all_goals
            go_wp2_with fail
            go_meet
            refine ⟨rfl, Lib.hid ?_⟩
            obtain ⟨G1, h⟩ := InB.start (cq := none) (cc := 0) (v0 := .slice none 0 0) HB5.out HG5.out HS5.out HN5.out HB9.out L9.out HW7.out (Below.refl _ _) (.inl ⟨h0, _, _, by rw [h0]⟩) HBK2.out.fin.l.wn
            rw [h0] at h
            have h := h.step (Below.refl _ _).drew
            exact ⟨G1, _, _, _, _, h⟩
        · obtain ⟨gb, go, gc', hv, hcap, hgl, _⟩ := SlR.form2 HBK2.out.fin.l.cases h0
          injection hv with hv hle hce
          subst hv hce
          clear hle
          have HNW := Lib.hid (news_cases (HBK2.out.fin.l.cases.below B7.out.drew))
          obtain ⟨i0, hi, hz0, hz1, hz2⟩ := info_parts info_case
          have HI0 := Lib.hid hi
          obtain ⟨m, hm⟩ : ∃ m, m = bk.fin.cases.length := ⟨_, rfl⟩
          have HNM := Lib.hid hm
          have hmb : m * 16 ≤ 140737488355328 := by have := HSB.out.2.2.1; unfold reachBytes at this; omega
          rw [← hm] at x8 h0
          clear hm hi hgl hcap
          go_region_law ((go_loud (refine step_append_lies _ (by rfl) _ _ 38 (by rfl) w7.heap.size 83 i0 _ 2 16 Tryd.underlying38 HI0.out hz0 hz1 hz2 rfl (by omega) _ 0 _ (by rfl) (World.ownsRow_nil _ _ _ _) ⟨gb, go, none⟩ m cc (caseCs bk.fin.cases) (by rfl) (by rw [caseCs_len, HNM.out]) HNW.out mem_cases h0 (by unfold maxLen; omega) (by omega) (Nat.le_refl _) _ rfl ?_)
                          intro g6 c6 w8 h5 h6 h7 h8
                          have hb8 : Below w7.heap.size w7 w8 := Below.grown ((Below.refl _ w7).drew) h6 (Nat.le_refl _) (fun q hq => by cases hq)
                          have x1 := (hb8.cell (p := ⟨g, 3, none⟩) hlg7).trans b3
                          have x2 := (hb8.cell (p := ⟨qb, qo + k * 10 + 1 + 7, none⟩) hfw7).trans x8
                          have x3 := (hb8.cell (p := ⟨g5, 8, none⟩) hl7).trans a8'
                          have y3 : w8.frozen? ⟨g5, 8, none⟩ = false := by unfold World.frozen? at f8' ⊢; rw [hb8.block g5 hl7]; exact f8'
                          have hl8 : g5 < w8.heap.size := Nat.lt_of_lt_of_le hl7 hb8.size))
          all_goals
            go_wp2_with fail
            go_meet
            refine ⟨rfl, Lib.hid ?_⟩
            have hnn := HNM.out
            rw [Nat.zero_add, List.nil_append] at h5
            subst hnn
            obtain ⟨G1, h⟩ := InB.start (v0 := .slice none 0 0) HB5.out HG5.out HS5.out HN5.out HB9.out L9.out HW7.out hb8 (cases_of_own h5 h0) HBK2.out.fin.l.wn
            exact ⟨G1, _, _, _, _, h⟩
      case rest =>
      obtain ⟨rfl, HB0⟩ := hcut
      clear b3 x8 hlg7 hfw7 hn1 hn2 a8' f8' hl7 HW7 HB9 L9 B7 HN5 HB5 HS5
      obtain ⟨wo, rfl⟩ : ∃ wo : World, wo = wr := ⟨_, rfl⟩
      obtain ⟨m, hm⟩ : ∃ m, m = bk.code.length := ⟨_, rfl⟩
      have HNM := Lib.hid hm
      have hmb : m * 96 ≤ 140737488355328 := by have := HSB.out.1; unfold reachBytes at this; omega
      have hmI : (m : Int) ≤ 9223372036854775807 := by omega
      clear hm
      go_wp2
      go_loopw [6] (fun i wr => ∃ j : Nat, j ≤ m ∧ i = .int .i64 j ∧ Hid (∃ G kq cq tq kc cc tc, InB bk wo g5 G kq cq tq kc cc tc j wr)) (fun i _ => m - (intOf i).toNat)
      case atStart =>
        obtain ⟨G1, cq, tq, cc1, tc1, h⟩ := HB0.out
        exact ⟨0, Nat.zero_le _, rfl, Lib.hid ⟨G1, _, _, _, _, _, _, h⟩⟩
      case round =>
        obtain ⟨j, hj, rfl, HJ⟩ := hrel
        obtain ⟨G1, kq, cq, tq, kc1, cc1, tc1, hib⟩ := HJ.out
        have HIB := Lib.hid hib
        have BO : Hid (Below wo.heap.size wo wr) := Lib.hid (by rw [← HG5.out]; exact hib.old)
        have b3 := (BO.out.cell (p := ⟨g, 3, none⟩) HLG.out.1).trans B3.out
        have x0 := (BO.out.cell (p := ⟨qb, qo + k * 10, none⟩) HLG.out.2).trans HBK2.out.ck
        rw [← HNM.out] at x0
        have hlg : g < wr.heap.size := Nat.lt_of_lt_of_le HLG.out.1 BO.out.size
        have hfw : qb < wr.heap.size := Nat.lt_of_lt_of_le HLG.out.2 BO.out.size
        clear hib
        by_cases hlj : j < m
        · obtain ⟨ib, io, ic, hv, hcap, hil, hcell⟩ := SlR.form2 HBK2.out.code (by have := HNM.out; omega)
          injection hv with hv hle hce
          subst hv hce
          clear hle
          have hjl : j < bk.code.length := by have := HNM.out; omega
          obtain ⟨va, vr, hin⟩ := hcell j hjl _ (List.getElem?_eq_getElem hjl)
          obtain ⟨y, hy⟩ : ∃ y, bk.code[j] = y := ⟨_, rfl⟩
          rw [hy] at hin
          have HY : Hid (bk.code[j]? = some y) := Lib.hid (by rw [← hy]; exact List.getElem?_eq_getElem hjl)
          have HSI : Hid (SmI y) := Lib.hid (HSB.out.2.1 y (by rw [← hy]; exact List.getElem_mem hjl))
          have hin2 := hin.below hil BO.out
          obtain ⟨yp, yc, rfl⟩ := hin.l.args.form
          obtain ⟨zp, zc, rfl⟩ := hin.l.arrs.form
          have HIN := Lib.hid hin2
          have c0 := hin2.op
          have c1 := hin2.d
          have c2 := hin2.fa
          have c3 := hin2.fb
          have c4 := hin2.f
          have c5 := hin2.n
          have c6 := hin2.ca
          have c7 := hin2.cr
          have hiw : ib < wr.heap.size := Nat.lt_of_lt_of_le hil BO.out.size
          have j0 : (0 : Int) ≤ j := by omega
          have j1 : (j : Int) < m := by omega
          have j2 : (m : Int) ≤ kc := by have := HNM.out; omega
          clear hcap hcell hin hin2 hy hjl hil
          go_upto_region 14 with (fail)
          have hn1 := heap_new wr (.cells #[.int .i64 y.op, .int .i64 y.d, .int .i64 y.a, .int .i64 y.b, .int .i64 y.f, .int .u32 y.n, .slice yp y.args.length yc, .slice zp y.arrs.length zc] 77)
          have hb1 := below_alloc wr (.cells #[.int .i64 y.op, .int .i64 y.d, .int .i64 y.a, .int .i64 y.b, .int .i64 y.f, .int .u32 y.n, .slice yp y.args.length yc, .slice zp y.arrs.length zc] 77)
          have hs1 : (wr.alloc (.cells #[.int .i64 y.op, .int .i64 y.d, .int .i64 y.a, .int .i64 y.b, .int .i64 y.f, .int .u32 y.n, .slice yp y.args.length yc, .slice zp y.arrs.length zc] 77)).heap.size = wr.heap.size + 1 := World.size_alloc _ _
          generalize hw1 : wr.alloc (.cells #[.int .i64 y.op, .int .i64 y.d, .int .i64 y.a, .int .i64 y.b, .int .i64 y.f, .int .u32 y.n, .slice yp y.args.length yc, .slice zp y.arrs.length zc] 77) = w1
          rw [hw1] at hn1 hb1 hs1
          obtain ⟨g7, hg7⟩ : ∃ g7, g7 = wr.heap.size := ⟨_, rfl⟩
          rw [← hg7] at hn1 hs1
          rw [← hg7]
          have HG7 := Lib.hid hg7
          have HW1 := Lib.hid hw1
          have HB1 := Lib.hid hb1
          have HK1 := Lib.hid hn1
          obtain ⟨a6, _⟩ := cell_of_block hn1 (k := 6) rfl
          have hl71 := lt_of_block hn1
          clear c0 c1 c2 c3 c4 c5 c6 c7 hiw b3 x0 hlg hfw hw1 hg7 hn1 hb1 hs1
          go_upto_region 15 with (
            go_at_call 50
            fail)
          refine (refInts_any y.args yp yc w1 (HIN.out.l.args.below HB1.out) (by have := HSI.out.1; unfold reachBytes at this; omega)).mono ?_
          rintro e wa ⟨q1, d1, rfl, l1, hba⟩
          have L1 := Lib.hid l1
          have HBA := Lib.hid hba
          have hka := (hba.block g7 hl71).trans HK1.out
          obtain ⟨a6', f6'⟩ := cell_of_block hka (k := 6) rfl
          have hla := lt_of_block hka
          clear l1 hba a6
          go_upto_region 15 with (fail)
          have hkb := heap_setCell_same wa g7 6 _ _ (.slice q1 y.args.length d1) hka
          generalize hw2 : wa.setCell ⟨g7, 6, none⟩ (.slice q1 y.args.length d1) = w2
          rw [hw2] at hkb
          have HW2 := Lib.hid hw2
          have HKB := Lib.hid hkb
          have HB2 : Hid (Below wr.heap.size wr w2) := Lib.hid (by
            rw [← HW2.out]
            exact Below.grown HB1.out (grown_step (World.grownBy.refl w1 (some g7)) HBA.out) HB1.out.size (fun q hq => by injection hq with hq; have := HG7.out; omega))
          obtain ⟨a7, _⟩ := cell_of_block hkb (k := 7) rfl
          have hlb := lt_of_block hkb
          clear a6' f6' hla hka hkb hw2 hl71
          go_upto_region 16 with (
            go_at_call 50
            fail)
          refine (refInts_any y.arrs zp zc w2 (HIN.out.l.arrs.below HB2.out) (by have := HSI.out.2; unfold reachBytes at this; omega)).mono ?_
          rintro e wb ⟨q2, d2, rfl, l2, hbb⟩
          have hkc := (hbb.block g7 hlb).trans HKB.out
          obtain ⟨a7', f7'⟩ := cell_of_block hkc (k := 7) rfl
          have hlc := lt_of_block hkc
          have HMK := Lib.hid (show Below wr.heap.size wr (wb.setCell ⟨wr.heap.size, 7, none⟩ (.slice q2 y.arrs.length d2)) ∧ _ ∧ _ from by
            have hb1 := HBA.out
            have hl1 := L1.out
            have h2 := HW2.out
            have h7 := HG7.out
            rw [← HW1.out] at hb1 hl1
            rw [h7] at h2
            rw [← h2] at hbb l2
            exact mk_two hb1 hl1 hbb l2 HIN.out.l.wn)
          rw [← HG7.out] at HMK
          clear l2 hbb a7 hlb hkc
          go_upto_region 16 with (fail)
          generalize hw3 : wb.setCell ⟨g7, 7, none⟩ (.slice q2 y.arrs.length d2) = w3
          rw [hw3] at HMK
          obtain ⟨mk1, mk2, mk3⟩ := HMK.out
          have HW3 := Lib.hid (InB.ready HIB.out (by have h := mk1; rw [HG7.out] at h; exact h) (by have h := mk3; rw [HG7.out] at h; exact h) (.cells #[.int .i64 y.op, .int .i64 y.d, .int .i64 y.a, .int .i64 y.b, .int .i64 y.f, .int .u32 y.n, .slice q1 y.args.length d1, .slice q2 y.arrs.length d2] 77))
          have hx5 := (mk1.block g5 (by have := lt_of_block HIB.out.cell; have := HG7.out; omega)).trans HIB.out.cell
          obtain ⟨x5, _⟩ := cell_of_block hx5 (k := 0) rfl
          have hl5 := lt_of_block hx5
          obtain ⟨e0, _⟩ := cell_of_block mk2 (k := 0) rfl
          obtain ⟨e1, _⟩ := cell_of_block mk2 (k := 1) rfl
          obtain ⟨e2, _⟩ := cell_of_block mk2 (k := 2) rfl
          obtain ⟨e3, _⟩ := cell_of_block mk2 (k := 3) rfl
          obtain ⟨e4, _⟩ := cell_of_block mk2 (k := 4) rfl
          obtain ⟨e5, _⟩ := cell_of_block mk2 (k := 5) rfl
          obtain ⟨e6, _⟩ := cell_of_block mk2 (k := 6) rfl
          obtain ⟨e7, _⟩ := cell_of_block mk2 (k := 7) rfl
          have hl7 := lt_of_block mk2
          obtain ⟨G2, hib2, hic⟩ := HW3.out
          obtain ⟨xs, hrow, hel⟩ := hib2.row.row
          have HIB2 := Lib.hid hib2
          have HIC := Lib.hid hic
          have HRW := Lib.hid hrow
          have HEL := Lib.hid hel
          have hlow : g5 + 1 ≤ w3.heap.size := hl5
          obtain ⟨i0, hi, hz0, hz1, hz2⟩ := info_parts info_ins
          have HI0 := Lib.hid hi
          have HNW := Lib.hid (news_at (w := w3) (l := [.int .i64 y.op, .int .i64 y.d, .int .i64 y.a, .int .i64 y.b, .int .i64 y.f, .int .u32 y.n, .slice q1 y.args.length d1, .slice q2 y.arrs.length d2]) (t := 77) (H := w3.heap.size) rfl)
          clear hi hib2 hic hrow hel hx5 mk1 mk2 mk3 HMK hw3 a7' f7' hlc HW3
          go_wp2_with (
            at_builtin
            go_loud (refine wpList_append_lies _ (by rfl) _ _ 36 (by rfl) (g5 + 1) 77 i0 _ 8 96 Tryd.underlying36 HI0.out hz0 hz1 hz2 rfl (by omega) _ j _ (by rfl) HRW.out ⟨w3.heap.size, 0, none⟩ 1 1 [.int .i64 y.op, .int .i64 y.d, .int .i64 y.a, .int .i64 y.b, .int .i64 y.f, .int .u32 y.n, .slice q1 y.args.length d1, .slice q2 y.arrs.length d2] (by rfl) rfl HNW.out (by simp [Value.oneCell']) (by omega) (by unfold maxLen; omega) (by omega) (by simp [World.size_alloc]; omega) _ rfl ?_)
            intro g6 c6 w5 h5 h6 h7 h8
            have hy5 := (InB.cell5 HIB2.out HRW.out h6).trans HIB2.out.cell
            obtain ⟨y5, p5⟩ := cell_of_block hy5 (k := 0) rfl
            have hl55 := lt_of_block hy5
            have HFIN := Lib.hid (InB.close HIB2.out HIC.out HY.out HRW.out HEL.out ⟨rfl, rfl, rfl, rfl, rfl, rfl, rfl, rfl⟩ h5 h6 h7)
            clear h5 h6 h7 h8 hy5)
          exact ⟨⟨j + 1, Nat.succ_le_of_lt hlj, by go_num, Lib.hid ⟨_, _, _, _, _, _, _, HFIN.out⟩⟩, by simp [intOf]; omega⟩
        · obtain rfl : j = m := by omega
          have HRD := Lib.hid (OutG.ready HM.out (Gi := G1) (kq := kq) (cq := cq) (tq := tq) (kc := kc1) (cc := cc1) (tc := tc1) (bk := bk) (by have h := HIB.out; rw [HNM.out, HG5.out] at h; exact h) (.cells #[.slice kq j kc1, .int .i64 bk.fin.kind, .int .i64 bk.fin.op, .int .i64 bk.fin.a, .int .i64 bk.fin.b, .int .u32 bk.fin.n, .int .i64 bk.fin.to, .int .i64 bk.fin.els, .slice cq bk.fin.cases.length cc1, .slice tq bk.fin.targets.length tc1] 42))
          have hx3 := (BO.out.block c (lt_of_block HM.out.cell)).trans HM.out.cell
          obtain ⟨x3, _⟩ := cell_of_block hx3 (k := 3) rfl
          have hlc3 := lt_of_block hx3
          obtain ⟨e0, _⟩ := cell_of_block HIB.out.cell (k := 0) rfl
          obtain ⟨e1, _⟩ := cell_of_block HIB.out.cell (k := 1) rfl
          obtain ⟨e2, _⟩ := cell_of_block HIB.out.cell (k := 2) rfl
          obtain ⟨e3, _⟩ := cell_of_block HIB.out.cell (k := 3) rfl
          obtain ⟨e4, _⟩ := cell_of_block HIB.out.cell (k := 4) rfl
          obtain ⟨e5, _⟩ := cell_of_block HIB.out.cell (k := 5) rfl
          obtain ⟨e6, _⟩ := cell_of_block HIB.out.cell (k := 6) rfl
          obtain ⟨e7, _⟩ := cell_of_block HIB.out.cell (k := 7) rfl
          obtain ⟨e8, _⟩ := cell_of_block HIB.out.cell (k := 8) rfl
          obtain ⟨e9, _⟩ := cell_of_block HIB.out.cell (k := 9) rfl
          have hl5 := lt_of_block HIB.out.cell
          obtain ⟨G2, hom, hoc⟩ := HRD.out
          obtain ⟨xs, hrow, hel⟩ := hom.row.row
          have HOM := Lib.hid hom
          rw [← HNM.out] at hoc
          have HOC := Lib.hid hoc
          have HRW := Lib.hid hrow
          have HEL := Lib.hid hel
          obtain ⟨i0, z0, hi, hz0, hzs, hz1, hz2⟩ := info_parts0 infoBlk
          have HI0 := Lib.hid hi
          have HNW := Lib.hid (news_at (w := wr) (l := [.slice kq j kc1, .int .i64 bk.fin.kind, .int .i64 bk.fin.op, .int .i64 bk.fin.a, .int .i64 bk.fin.b, .int .u32 bk.fin.n, .int .i64 bk.fin.to, .int .i64 bk.fin.els, .slice cq bk.fin.cases.length cc1, .slice tq bk.fin.targets.length tc1]) (t := 42) (H := wr.heap.size) rfl)
          clear hi hom hoc hrow hel hx3 HRD
          go_wp2_with (
            at_builtin
            go_loud (refine wpList_append_lies _ (by rfl) _ _ 24 (by rfl) (c + 1) 42 i0 z0 10 128 Tryd.underlying24 HI0.out hz0 hz1 hz2 hzs (by omega) _ k _ (by rfl) HRW.out ⟨wr.heap.size, 0, none⟩ 1 1 [.slice kq j kc1, .int .i64 bk.fin.kind, .int .i64 bk.fin.op, .int .i64 bk.fin.a, .int .i64 bk.fin.b, .int .u32 bk.fin.n, .int .i64 bk.fin.to, .int .i64 bk.fin.els, .slice cq bk.fin.cases.length cc1, .slice tq bk.fin.targets.length tc1] (by rfl) rfl HNW.out (by simp [Value.oneCell']) (by omega) (by unfold maxLen; omega) (by omega) (by simp [World.size_alloc]; omega) _ rfl ?_)
            intro g6 c6 w5 h5 h6 h7 h8
            have hy5 := OutG.cell5 HOM.out HRW.out h6
            obtain ⟨y5, p5⟩ := cell_of_block hy5 (k := 3) rfl
            have hl55 := lt_of_block hy5
            have HFIN := Lib.hid (OutG.close HOM.out HOC.out HX.out HRW.out HEL.out ⟨rfl, rfl, rfl, rfl, rfl, rfl, rfl, rfl, rfl, rfl⟩ h5 h6 h7)
            clear h5 h6 h7 h8 hy5)
          go_roundw
          case rel => exact ⟨k + 1, Nat.succ_le_of_lt hlt, by go_num, Lib.hid ⟨_, _, _, _, _, _, _, HFIN.out⟩⟩
          case measure => simp [intOf]; omega
    · obtain rfl : k = n := by omega
      have hres := HM.out.res
      have hcell := HM.out.cell
      rw [← HGE.out] at hres
      obtain ⟨r0, z0⟩ := cell_of_block hres (k := 0) rfl
      obtain ⟨r1, z1⟩ := cell_of_block hres (k := 1) rfl
      obtain ⟨r2, z2⟩ := cell_of_block hres (k := 2) rfl
      obtain ⟨r3, z3⟩ := cell_of_block hres (k := 3) rfl
      obtain ⟨q0, _⟩ := cell_of_block hcell (k := 0) rfl
      obtain ⟨q1, _⟩ := cell_of_block hcell (k := 1) rfl
      obtain ⟨q2, _⟩ := cell_of_block hcell (k := 2) rfl
      obtain ⟨q3, _⟩ := cell_of_block hcell (k := 3) rfl
      have hlr := lt_of_block hres
      have hlc := lt_of_block hcell
      have HEND := Lib.hid (set_row4 (.slice pq x.params.length pc) (.int .i64 x.temps) (.slice aq x.arrays.length ac) (.slice bq k bc') hres)
      have HDONE := Lib.hid (fun (we : World) (hwe : wr.grownBy we (some (w.heap.size + 1))) => OutG.done (x := x) (w0 := w) (box := cur) (g3 := c) (G := G) (pq := pq) (aq := aq) (bq := bq) (pc := pc) (ac := ac) (bc := bc') (by have h := HM.out; rw [HN.out] at h; exact h) hwe)
      clear hres hcell
      go_wp2
      obtain ⟨gw, ew⟩ := HEND.out
      generalize ((((World.setCell wr ⟨g + 1, 0, none⟩ (.slice pq x.params.length pc)).setCell ⟨g + 1, 1, none⟩ (.int .i64 x.temps)).setCell ⟨g + 1, 2, none⟩ (.slice aq x.arrays.length ac)).setCell ⟨g + 1, 3, none⟩ (.slice bq k bc')) = we at gw ew ⊢
      obtain ⟨p0, _⟩ := cell_of_block ew (k := 0) rfl
      obtain ⟨p1, _⟩ := cell_of_block ew (k := 1) rfl
      obtain ⟨p2, _⟩ := cell_of_block ew (k := 2) rfl
      obtain ⟨p3, _⟩ := cell_of_block ew (k := 3) rfl
      have HF := Lib.hid (HDONE.out we (by rw [← HGE.out]; exact gw))
      clear ew gw
      try simp only [Exit.inBlock, Exit.then]
      refine bodyPost_ret (v := .agg #[.slice pq x.params.length pc, .int .i64 x.temps, .slice aq x.arrays.length ac, .slice bq k bc']) ?_ rfl ?_
      · simp [results, Tryd.results51, go_sem, p0, p1, p2, p3]
      · have h1 := HF.out.1
        rw [← HN.out] at h1
        exact ⟨_, _, _, _, _, _, by rw [HN.out], by rw [← HN.out]; exact h1, HF.out.2⟩
end Go.Proofs.YtcijaaiopfbffaaDoor.Graph
namespace Go.Proofs.YtcijaaiopfbffaaDoor.Live
open Go.RowKit Go.Proofs.YtcijaaiopfbffaaDoor.Graph Go.Shelf

theorem funcs_one {x : PGr} {vp va vb : Value} (w : World) : ∀ W : World, W = (((w.alloc (.cells #[vp, .int .i64 x.temps, va, vb] 26)).alloc (.cells #[.slice none 0 0, .int .i64 0, .slice none 0 0, .slice none 0 0] 26)).alloc (.cells #[vp, .int .i64 x.temps, va, vb] 26)) → GrL W vp va vb x → GrsR W (.slice (some ⟨w.heap.size + 1 + 1, 0, none⟩) 1 1) [x] := fun W hW hg => by
  have hb : W.heap[w.heap.size + 1 + 1]? = some (.cells #[vp, .int .i64 x.temps, va, vb] 26 (0, 0)) := by
    rw [hW]
    have := heap_new ((w.alloc (.cells #[vp, .int .i64 x.temps, va, vb] 26)).alloc (.cells #[.slice none 0 0, .int .i64 0, .slice none 0 0, .slice none 0 0] 26)) (.cells #[vp, .int .i64 x.temps, va, vb] 26)
    simpa using this
  refine .inr ⟨w.heap.size + 1 + 1, 0, 1, rfl, by simp, by simp, (Array.getElem?_eq_some_iff.1 hb).1, fun i hi y hy => ?_⟩
  have hi : i < 1 := hi
  obtain rfl : i = 0 := by omega
  simp only [List.getElem?_cons_zero, Option.some.injEq] at hy
  subst hy
  exact ⟨vp, va, vb, (cell_of_block hb (k := 0) rfl).1, (cell_of_block hb (k := 1) rfl).1, (cell_of_block hb (k := 2) rfl).1, (cell_of_block hb (k := 3) rfl).1, hg⟩
set_option maxHeartbeats 8000000 in
set_option maxRecDepth 100000 in
theorem copied13_any (x : PGr) (vp va vb : Value) (w : World) (h : GrL w vp va vb x) (hs : SmG x) :
    Calls Tryd.prog 9 #[grV x vp va vb] w (CopiedG x w) := by
  have hfun := funcs_one (x := x) (vp := vp) (va := va) (vb := vb) w
  obtain ⟨pp, pc, rfl⟩ := h.params.form
  obtain ⟨ap, ac, rfl⟩ := h.arrays.form
  obtain ⟨bp, bc, rfl⟩ := h.blocks.form
  have HG := Lib.hid h
  unfold CopiedG grV
  have HB3 : Hid (Below w.heap.size w (((w.alloc (.cells #[.slice pp x.params.length pc, .int .i64 x.temps, .slice ap x.arrays.length ac, .slice bp x.blocks.length bc] 26)).alloc (.cells #[.slice none 0 0, .int .i64 0, .slice none 0 0, .slice none 0 0] 26)).alloc (.cells #[.slice pp x.params.length pc, .int .i64 x.temps, .slice ap x.arrays.length ac, .slice bp x.blocks.length bc] 26))) := Lib.hid (((Graph.below_alloc w _).alloc (by simp) _).alloc (by simp; omega) _)
  have HCP : Hid (Calls Tryd.prog 29 #[.agg #[.slice none 0 0, .slice none 0 0, .slice (some ⟨w.heap.size + 1 + 1, 0, none⟩) 1 1, .int .i64 0]] (((w.alloc (.cells #[.slice pp x.params.length pc, .int .i64 x.temps, .slice ap x.arrays.length ac, .slice bp x.blocks.length bc] 26)).alloc (.cells #[.slice none 0 0, .int .i64 0, .slice none 0 0, .slice none 0 0] 26)).alloc (.cells #[.slice pp x.params.length pc, .int .i64 x.temps, .slice ap x.arrays.length ac, .slice bp x.blocks.length bc] 26)) fun e w' => ∃ pq aq bq pc5 ac5 bc5, e = .returned (.agg #[.slice pq 0 pc5, .slice aq 0 ac5, .slice bq 1 bc5, .int .i64 0]) ∧ GrsR (cutW (New (((w.alloc (.cells #[.slice pp x.params.length pc, .int .i64 x.temps, .slice ap x.arrays.length ac, .slice bp x.blocks.length bc] 26)).alloc (.cells #[.slice none 0 0, .int .i64 0, .slice none 0 0, .slice none 0 0] 26)).alloc (.cells #[.slice pp x.params.length pc, .int .i64 x.temps, .slice ap x.arrays.length ac, .slice bp x.blocks.length bc] 26)).heap.size w') w') (.slice bq 1 bc5) [x] ∧ Below (((w.alloc (.cells #[.slice pp x.params.length pc, .int .i64 x.temps, .slice ap x.arrays.length ac, .slice bp x.blocks.length bc] 26)).alloc (.cells #[.slice none 0 0, .int .i64 0, .slice none 0 0, .slice none 0 0] 26)).alloc (.cells #[.slice pp x.params.length pc, .int .i64 x.temps, .slice ap x.arrays.length ac, .slice bp x.blocks.length bc] 26)).heap.size (((w.alloc (.cells #[.slice pp x.params.length pc, .int .i64 x.temps, .slice ap x.arrays.length ac, .slice bp x.blocks.length bc] 26)).alloc (.cells #[.slice none 0 0, .int .i64 0, .slice none 0 0, .slice none 0 0] 26)).alloc (.cells #[.slice pp x.params.length pc, .int .i64 x.temps, .slice ap x.arrays.length ac, .slice bp x.blocks.length bc] 26)) w') := Lib.hid (by
    have hg := HG.out.below HB3.out
    refine (refCopy_any copyGraph_any ⟨[], [], [x], 0⟩ (.slice none 0 0) (.slice none 0 0) (.slice (some ⟨w.heap.size + 1 + 1, 0, none⟩) 1 1) _ ⟨.inl ⟨rfl, _, _, rfl⟩, .inl ⟨rfl, _, _, rfl⟩, hfun _ rfl hg⟩ ⟨by simp, by simp, by simp [reachBytes], fun g hg => by
      have : g = x := by simpa using hg
      subst this; exact hs⟩).mono ?_
    rintro e w' ⟨pq, aq, bq, pc5, ac5, bc5, rfl, hl, hb⟩
    exact ⟨pq, aq, bq, pc5, ac5, bc5, rfl, hl.funcs, hb⟩)
  have HRS : Hid ((((w.alloc (.cells #[.slice pp x.params.length pc, .int .i64 x.temps, .slice ap x.arrays.length ac, .slice bp x.blocks.length bc] 26)).alloc (.cells #[.slice none 0 0, .int .i64 0, .slice none 0 0, .slice none 0 0] 26)).alloc (.cells #[.slice pp x.params.length pc, .int .i64 x.temps, .slice ap x.arrays.length ac, .slice bp x.blocks.length bc] 26)).heap[w.heap.size + 1]? = some (.cells #[.slice none 0 0, .int .i64 0, .slice none 0 0, .slice none 0 0] 26 (0, 0))) := Lib.hid (by
    rw [Below.heap_alloc _ _ _ (by simp)]
    have := heap_new (w.alloc (.cells #[.slice pp x.params.length pc, .int .i64 x.temps, .slice ap x.arrays.length ac, .slice bp x.blocks.length bc] 26)) (.cells #[.slice none 0 0, .int .i64 0, .slice none 0 0, .slice none 0 0] 26)
    simpa using this)
  have HS3 : Hid ((((w.alloc (.cells #[.slice pp x.params.length pc, .int .i64 x.temps, .slice ap x.arrays.length ac, .slice bp x.blocks.length bc] 26)).alloc (.cells #[.slice none 0 0, .int .i64 0, .slice none 0 0, .slice none 0 0] 26)).alloc (.cells #[.slice pp x.params.length pc, .int .i64 x.temps, .slice ap x.arrays.length ac, .slice bp x.blocks.length bc] 26)).heap.size = w.heap.size + 3) := Lib.hid (by simp)
  clear h hs hfun
  go_enter Tryd.func9, Tryd.ntmps9
  go_upto_region 2 with (
    go_at_call 29
    refine HCP.out.mono ?_
    rintro e w5 ⟨pq, aq, bq, pc5, ac5, bc5, rfl, hl5, hb5⟩
    have HL5 := Lib.hid hl5
    have HB5 := Lib.hid hb5
    clear hl5 hb5)
  obtain ⟨gb, go, c6, hv6, hcap6, hgl6, hP6⟩ := SlR.form2 HL5.out (by simp)
  injection hv6 with e1 e2 e3
  clear e2
  subst e1 e3
  obtain ⟨vp6, va6, vb6, hR6⟩ := hP6 0 (by simp) x rfl
  obtain ⟨pp6, pc6, rfl⟩ := hR6.l.params.form
  obtain ⟨ap6, ac6, rfl⟩ := hR6.l.arrays.form
  obtain ⟨bp6, bc6, rfl⟩ := hR6.l.blocks.form
  have HGL := Lib.hid hR6.l
  have hgb : gb < w5.heap.size := by rw [cutW_size] at hgl6; exact hgl6
  have hb6 := Graph.below_alloc w5 (.cells #[.slice pq 0 pc5, .slice aq 0 ac5, .slice (some ⟨gb, go, none⟩) 1 bc5, .int .i64 0] 63)
  have d0 := (cell_below hb6 hgb _).trans (cutW_cell.1 hR6.cp).2
  have d1 := (cell_below hb6 hgb _).trans (cutW_cell.1 hR6.temps).2
  have d2 := (cell_below hb6 hgb _).trans (cutW_cell.1 hR6.ca).2
  have d3 := (cell_below hb6 hgb _).trans (cutW_cell.1 hR6.cb).2
  rw [Nat.zero_mul, Nat.add_zero] at d0 d1 d2 d3
  have hres := (hb6.block _ (Nat.lt_of_lt_of_le (by rw [HS3.out]; omega) HB5.out.size)).trans ((HB5.out.block (w.heap.size + 1) (by rw [HS3.out]; omega)).trans HRS.out)
  have hmod := heap_new w5 (.cells #[.slice pq 0 pc5, .slice aq 0 ac5, .slice (some ⟨gb, go, none⟩) 1 bc5, .int .i64 0] 63)
  have HB6 : Hid (Below w5.heap.size w5 (w5.alloc (.cells #[.slice pq 0 pc5, .slice aq 0 ac5, .slice (some ⟨gb, go, none⟩) 1 bc5, .int .i64 0] 63))) := Lib.hid hb6
  generalize w5.alloc (.cells #[.slice pq 0 pc5, .slice aq 0 ac5, .slice (some ⟨gb, go, none⟩) 1 bc5, .int .i64 0] 63) = W6 at d0 d1 d2 d3 hres hmod HB6 ⊢
  obtain ⟨z0, f0⟩ := cell_of_block hres (k := 0) rfl
  obtain ⟨z1, f1⟩ := cell_of_block hres (k := 1) rfl
  obtain ⟨z2, f2⟩ := cell_of_block hres (k := 2) rfl
  obtain ⟨z3, f3⟩ := cell_of_block hres (k := 3) rfl
  obtain ⟨m2, _⟩ := cell_of_block hmod (k := 2) rfl
  have HRES := Lib.hid hres
  obtain ⟨hc1, hc2⟩ := hcap6
  clear hres hmod hb6 hgl6 hP6 hR6 hc1 hc2 hgb
  go_wp2
  have hz6 : w.heap.size + 1 < W6.heap.size := (Array.getElem?_eq_some_iff.1 HRES.out).1
  obtain ⟨hg7, hbk⟩ := set_row4 (.slice pp6 x.params.length pc6) (.int .i64 x.temps) (.slice ap6 x.arrays.length ac6) (.slice bp6 x.blocks.length bc6) HRES.out
  have hbw : Below w.heap.size w ((((W6.setCell ⟨w.heap.size + 1, 0, none⟩ (.slice pp6 x.params.length pc6)).setCell ⟨w.heap.size + 1, 1, none⟩ (.int .i64 x.temps)).setCell ⟨w.heap.size + 1, 2, none⟩ (.slice ap6 x.arrays.length ac6)).setCell ⟨w.heap.size + 1, 3, none⟩ (.slice bp6 x.blocks.length bc6)) := below_set (below_set (below_set (below_set (below_then HB3.out (below_then HB5.out HB6.out)) (by omega)) (by omega)) (by omega)) (by omega)
  generalize ((((W6.setCell ⟨w.heap.size + 1, 0, none⟩ (.slice pp6 x.params.length pc6)).setCell ⟨w.heap.size + 1, 1, none⟩ (.int .i64 x.temps)).setCell ⟨w.heap.size + 1, 2, none⟩ (.slice ap6 x.arrays.length ac6)).setCell ⟨w.heap.size + 1, 3, none⟩ (.slice bp6 x.blocks.length bc6)) = W7 at hg7 hbk hbw ⊢
  obtain ⟨u0, _⟩ := cell_of_block hbk (k := 0) rfl
  obtain ⟨u1, _⟩ := cell_of_block hbk (k := 1) rfl
  obtain ⟨u2, _⟩ := cell_of_block hbk (k := 2) rfl
  obtain ⟨u3, _⟩ := cell_of_block hbk (k := 3) rfl
  refine bodyPost_ret (v := .agg #[.slice pp6 x.params.length pc6, .int .i64 x.temps, .slice ap6 x.arrays.length ac6, .slice bp6 x.blocks.length bc6]) ?_ rfl ⟨pp6, ap6, bp6, pc6, ac6, bc6, rfl, GrL.holds (cut_to (Nat.le_trans HB6.out.size hg7.size) fun b hb hn => ?_) HGL.out, hbw⟩
  · simp [results, Tryd.results9, go_sem, u0, u1, u2, u3]
  · have hb0 : w.heap.size + 3 ≤ b := by have := hn.1; rw [HS3.out] at this; exact this
    have he : W7.heap[b]? = w5.heap[b]? := (hg7.block b (Nat.lt_of_lt_of_le hb HB6.out.size) (fun e => by injection e with e; omega)).trans (HB6.out.block b hb)
    exact ⟨⟨by omega, unf_keep hn.2 he⟩, he⟩
set_option maxHeartbeats 8000000 in
set_option maxRecDepth 100000 in
theorem copied19_any (x : PGr) (vp va vb : Value) (w : World) (h : GrL w vp va vb x) (hs : SmG x) :
    Calls Tryd.prog 21 #[grV x vp va vb] w (CopiedG x w) := by
  have hfun := funcs_one (x := x) (vp := vp) (va := va) (vb := vb) w
  obtain ⟨pp, pc, rfl⟩ := h.params.form
  obtain ⟨ap, ac, rfl⟩ := h.arrays.form
  obtain ⟨bp, bc, rfl⟩ := h.blocks.form
  have HG := Lib.hid h
  unfold CopiedG grV
  have HB3 : Hid (Below w.heap.size w (((w.alloc (.cells #[.slice pp x.params.length pc, .int .i64 x.temps, .slice ap x.arrays.length ac, .slice bp x.blocks.length bc] 26)).alloc (.cells #[.slice none 0 0, .int .i64 0, .slice none 0 0, .slice none 0 0] 26)).alloc (.cells #[.slice pp x.params.length pc, .int .i64 x.temps, .slice ap x.arrays.length ac, .slice bp x.blocks.length bc] 26))) := Lib.hid (((Graph.below_alloc w _).alloc (by simp) _).alloc (by simp; omega) _)
  have HCP : Hid (Calls Tryd.prog 29 #[.agg #[.slice none 0 0, .slice none 0 0, .slice (some ⟨w.heap.size + 1 + 1, 0, none⟩) 1 1, .int .i64 0]] (((w.alloc (.cells #[.slice pp x.params.length pc, .int .i64 x.temps, .slice ap x.arrays.length ac, .slice bp x.blocks.length bc] 26)).alloc (.cells #[.slice none 0 0, .int .i64 0, .slice none 0 0, .slice none 0 0] 26)).alloc (.cells #[.slice pp x.params.length pc, .int .i64 x.temps, .slice ap x.arrays.length ac, .slice bp x.blocks.length bc] 26)) fun e w' => ∃ pq aq bq pc5 ac5 bc5, e = .returned (.agg #[.slice pq 0 pc5, .slice aq 0 ac5, .slice bq 1 bc5, .int .i64 0]) ∧ GrsR (cutW (New (((w.alloc (.cells #[.slice pp x.params.length pc, .int .i64 x.temps, .slice ap x.arrays.length ac, .slice bp x.blocks.length bc] 26)).alloc (.cells #[.slice none 0 0, .int .i64 0, .slice none 0 0, .slice none 0 0] 26)).alloc (.cells #[.slice pp x.params.length pc, .int .i64 x.temps, .slice ap x.arrays.length ac, .slice bp x.blocks.length bc] 26)).heap.size w') w') (.slice bq 1 bc5) [x] ∧ Below (((w.alloc (.cells #[.slice pp x.params.length pc, .int .i64 x.temps, .slice ap x.arrays.length ac, .slice bp x.blocks.length bc] 26)).alloc (.cells #[.slice none 0 0, .int .i64 0, .slice none 0 0, .slice none 0 0] 26)).alloc (.cells #[.slice pp x.params.length pc, .int .i64 x.temps, .slice ap x.arrays.length ac, .slice bp x.blocks.length bc] 26)).heap.size (((w.alloc (.cells #[.slice pp x.params.length pc, .int .i64 x.temps, .slice ap x.arrays.length ac, .slice bp x.blocks.length bc] 26)).alloc (.cells #[.slice none 0 0, .int .i64 0, .slice none 0 0, .slice none 0 0] 26)).alloc (.cells #[.slice pp x.params.length pc, .int .i64 x.temps, .slice ap x.arrays.length ac, .slice bp x.blocks.length bc] 26)) w') := Lib.hid (by
    have hg := HG.out.below HB3.out
    refine (refCopy_any copyGraph_any ⟨[], [], [x], 0⟩ (.slice none 0 0) (.slice none 0 0) (.slice (some ⟨w.heap.size + 1 + 1, 0, none⟩) 1 1) _ ⟨.inl ⟨rfl, _, _, rfl⟩, .inl ⟨rfl, _, _, rfl⟩, hfun _ rfl hg⟩ ⟨by simp, by simp, by simp [reachBytes], fun g hg => by
      have : g = x := by simpa using hg
      subst this; exact hs⟩).mono ?_
    rintro e w' ⟨pq, aq, bq, pc5, ac5, bc5, rfl, hl, hb⟩
    exact ⟨pq, aq, bq, pc5, ac5, bc5, rfl, hl.funcs, hb⟩)
  have HRS : Hid ((((w.alloc (.cells #[.slice pp x.params.length pc, .int .i64 x.temps, .slice ap x.arrays.length ac, .slice bp x.blocks.length bc] 26)).alloc (.cells #[.slice none 0 0, .int .i64 0, .slice none 0 0, .slice none 0 0] 26)).alloc (.cells #[.slice pp x.params.length pc, .int .i64 x.temps, .slice ap x.arrays.length ac, .slice bp x.blocks.length bc] 26)).heap[w.heap.size + 1]? = some (.cells #[.slice none 0 0, .int .i64 0, .slice none 0 0, .slice none 0 0] 26 (0, 0))) := Lib.hid (by
    rw [Below.heap_alloc _ _ _ (by simp)]
    have := heap_new (w.alloc (.cells #[.slice pp x.params.length pc, .int .i64 x.temps, .slice ap x.arrays.length ac, .slice bp x.blocks.length bc] 26)) (.cells #[.slice none 0 0, .int .i64 0, .slice none 0 0, .slice none 0 0] 26)
    simpa using this)
  have HS3 : Hid ((((w.alloc (.cells #[.slice pp x.params.length pc, .int .i64 x.temps, .slice ap x.arrays.length ac, .slice bp x.blocks.length bc] 26)).alloc (.cells #[.slice none 0 0, .int .i64 0, .slice none 0 0, .slice none 0 0] 26)).alloc (.cells #[.slice pp x.params.length pc, .int .i64 x.temps, .slice ap x.arrays.length ac, .slice bp x.blocks.length bc] 26)).heap.size = w.heap.size + 3) := Lib.hid (by simp)
  clear h hs hfun
  go_enter Tryd.func21, Tryd.ntmps21
  go_upto_region 2 with (
    go_at_call 29
    refine HCP.out.mono ?_
    rintro e w5 ⟨pq, aq, bq, pc5, ac5, bc5, rfl, hl5, hb5⟩
    have HL5 := Lib.hid hl5
    have HB5 := Lib.hid hb5
    clear hl5 hb5)
  obtain ⟨gb, go, c6, hv6, hcap6, hgl6, hP6⟩ := SlR.form2 HL5.out (by simp)
  injection hv6 with e1 e2 e3
  clear e2
  subst e1 e3
  obtain ⟨vp6, va6, vb6, hR6⟩ := hP6 0 (by simp) x rfl
  obtain ⟨pp6, pc6, rfl⟩ := hR6.l.params.form
  obtain ⟨ap6, ac6, rfl⟩ := hR6.l.arrays.form
  obtain ⟨bp6, bc6, rfl⟩ := hR6.l.blocks.form
  have HGL := Lib.hid hR6.l
  have hgb : gb < w5.heap.size := by rw [cutW_size] at hgl6; exact hgl6
  have hb6 := Graph.below_alloc w5 (.cells #[.slice pq 0 pc5, .slice aq 0 ac5, .slice (some ⟨gb, go, none⟩) 1 bc5, .int .i64 0] 63)
  have d0 := (cell_below hb6 hgb _).trans (cutW_cell.1 hR6.cp).2
  have d1 := (cell_below hb6 hgb _).trans (cutW_cell.1 hR6.temps).2
  have d2 := (cell_below hb6 hgb _).trans (cutW_cell.1 hR6.ca).2
  have d3 := (cell_below hb6 hgb _).trans (cutW_cell.1 hR6.cb).2
  rw [Nat.zero_mul, Nat.add_zero] at d0 d1 d2 d3
  have hres := (hb6.block _ (Nat.lt_of_lt_of_le (by rw [HS3.out]; omega) HB5.out.size)).trans ((HB5.out.block (w.heap.size + 1) (by rw [HS3.out]; omega)).trans HRS.out)
  have hmod := heap_new w5 (.cells #[.slice pq 0 pc5, .slice aq 0 ac5, .slice (some ⟨gb, go, none⟩) 1 bc5, .int .i64 0] 63)
  have HB6 : Hid (Below w5.heap.size w5 (w5.alloc (.cells #[.slice pq 0 pc5, .slice aq 0 ac5, .slice (some ⟨gb, go, none⟩) 1 bc5, .int .i64 0] 63))) := Lib.hid hb6
  generalize w5.alloc (.cells #[.slice pq 0 pc5, .slice aq 0 ac5, .slice (some ⟨gb, go, none⟩) 1 bc5, .int .i64 0] 63) = W6 at d0 d1 d2 d3 hres hmod HB6 ⊢
  obtain ⟨z0, f0⟩ := cell_of_block hres (k := 0) rfl
  obtain ⟨z1, f1⟩ := cell_of_block hres (k := 1) rfl
  obtain ⟨z2, f2⟩ := cell_of_block hres (k := 2) rfl
  obtain ⟨z3, f3⟩ := cell_of_block hres (k := 3) rfl
  obtain ⟨m2, _⟩ := cell_of_block hmod (k := 2) rfl
  have HRES := Lib.hid hres
  obtain ⟨hc1, hc2⟩ := hcap6
  clear hres hmod hb6 hgl6 hP6 hR6 hc1 hc2 hgb
  go_wp2
  have hz6 : w.heap.size + 1 < W6.heap.size := (Array.getElem?_eq_some_iff.1 HRES.out).1
  obtain ⟨hg7, hbk⟩ := set_row4 (.slice pp6 x.params.length pc6) (.int .i64 x.temps) (.slice ap6 x.arrays.length ac6) (.slice bp6 x.blocks.length bc6) HRES.out
  have hbw : Below w.heap.size w ((((W6.setCell ⟨w.heap.size + 1, 0, none⟩ (.slice pp6 x.params.length pc6)).setCell ⟨w.heap.size + 1, 1, none⟩ (.int .i64 x.temps)).setCell ⟨w.heap.size + 1, 2, none⟩ (.slice ap6 x.arrays.length ac6)).setCell ⟨w.heap.size + 1, 3, none⟩ (.slice bp6 x.blocks.length bc6)) := below_set (below_set (below_set (below_set (below_then HB3.out (below_then HB5.out HB6.out)) (by omega)) (by omega)) (by omega)) (by omega)
  generalize ((((W6.setCell ⟨w.heap.size + 1, 0, none⟩ (.slice pp6 x.params.length pc6)).setCell ⟨w.heap.size + 1, 1, none⟩ (.int .i64 x.temps)).setCell ⟨w.heap.size + 1, 2, none⟩ (.slice ap6 x.arrays.length ac6)).setCell ⟨w.heap.size + 1, 3, none⟩ (.slice bp6 x.blocks.length bc6)) = W7 at hg7 hbk hbw ⊢
  obtain ⟨u0, _⟩ := cell_of_block hbk (k := 0) rfl
  obtain ⟨u1, _⟩ := cell_of_block hbk (k := 1) rfl
  obtain ⟨u2, _⟩ := cell_of_block hbk (k := 2) rfl
  obtain ⟨u3, _⟩ := cell_of_block hbk (k := 3) rfl
  refine bodyPost_ret (v := .agg #[.slice pp6 x.params.length pc6, .int .i64 x.temps, .slice ap6 x.arrays.length ac6, .slice bp6 x.blocks.length bc6]) ?_ rfl ⟨pp6, ap6, bp6, pc6, ac6, bc6, rfl, GrL.holds (cut_to (Nat.le_trans HB6.out.size hg7.size) fun b hb hn => ?_) HGL.out, hbw⟩
  · simp [results, Tryd.results21, go_sem, u0, u1, u2, u3]
  · have hb0 : w.heap.size + 3 ≤ b := by have := hn.1; rw [HS3.out] at this; exact this
    have he : W7.heap[b]? = w5.heap[b]? := (hg7.block b (Nat.lt_of_lt_of_le hb HB6.out.size) (fun e => by injection e with e; omega)).trans (HB6.out.block b hb)
    exact ⟨⟨by omega, unf_keep hn.2 he⟩, he⟩
end Go.Proofs.YtcijaaiopfbffaaDoor.Live
