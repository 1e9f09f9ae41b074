/- The document's Copy, at any module. -/
import Derived.Test.YtacbfjinellonaaLA
import Derived.Deep.AppendLies
namespace Go.Proofs.Ytacbfjinellonaa.Graph
open Go.RowKit

theorem info_word : (Try.prog.info? 44).map (fun i => (i.zero, i.size, i.bytes)) = some (some (.int .u32 0), 1, 4) := by kernel_rfl
theorem info_gr : (Try.prog.info? 37).map (fun i => (i.zero, i.size, i.bytes)) = some (some (.agg #[.slice none 0 0, .int .i64 0, .slice none 0 0, .slice none 0 0]), 4, 80) := by kernel_rfl
def wv (x : Int) : Value := .int .u32 x
theorem mem_wv {l : List Int} : ∀ u ∈ l.map wv, u.oneCell' = true := by
  intro u hu
  obtain ⟨x, _, rfl⟩ := List.mem_map.1 hu
  rfl
theorem news_words {w : World} {g o : Nat} {l : List Int} {c : Nat} (h : WordsR w (.slice (some ⟨g, o, none⟩) l.length c) l) : ∀ j u, (l.map wv)[j]? = some u → w.cell? ((⟨g, o, none⟩ : Addr).add j) = some u := fun j u hj => by
  rw [List.getElem?_map] at hj
  obtain ⟨x, hx, rfl⟩ := Option.map_eq_some_iff.1 hj
  have hjl : j < l.length := by
    rcases Nat.lt_or_ge j l.length with h | h
    · exact h
    · rw [List.getElem?_eq_none h] at hx; cases hx
  have h3 := (SlR.at_ h hjl).1 x hx
  rw [Nat.mul_one] at h3
  rw [add_none]
  exact h3
theorem words_of_own {w : World} {B : Nat} {p : Option Addr} {c : Nat} {l : List Int} (h : w.ownsRow B 44 1 (.slice p l.length c) l.length (l.map wv)) (h0 : 0 < l.length) : WordsR (cutW (New B w) w) (.slice p l.length c) l := by
  obtain ⟨g, cap, hv, h1, h2, h3, h4⟩ := row_cells h h0
  obtain ⟨_, ⟨_, h5⟩ | ⟨g', cap', cur, hv', hB, hg, _⟩⟩ := h
  · omega
  · rw [hv] at hv' ⊢
    injection hv' with e1
    injection e1 with e1
    injection e1 with e1
    subst e1
    refine .inr ⟨g, 0, cap, rfl, h0, ⟨h1, h2⟩, by rw [cutW_size]; exact h3, fun i hi x hx => cutW_cell.2 ⟨⟨hB, _, _, hg⟩, h4 _ _ ?_⟩⟩
    rw [Nat.zero_add, Nat.mul_one]
    simp [hx, wv]
theorem news_at {w : World} {l : List Value} {t : TypeId} {H : Nat} (hH : w.heap.size = H) : ∀ j u, l[j]? = some u → (w.alloc (.cells l.toArray t)).cell? ((⟨H, 0, none⟩ : Addr).add j) = some u := fun j u hj => by
  subst hH
  rw [add_none, Nat.zero_add]
  exact (cell_of_block (heap_new w _) (k := j) (by simpa using hj)).1
set_option maxHeartbeats 8000000 in
set_option maxRecDepth 100000 in
theorem refCopy_any (hcg : ∀ (y : PGr) (vp va vb : Value) (w : World), GrL w vp va vb y → SmG y → Calls Try.prog 22 #[grV y vp va vb] w (CopiedG y w))
    (x : PMod) (vg va vf : Value) (w : World) (hL : ModL w vg va vf x) (hs : SmM x) :
    Calls Try.prog 7 #[modV x vg va vf] w (CopiedR x w) := by
  obtain ⟨s1, s2, s3, s4⟩ := hs
  have HL := Lib.hid hL
  have HCG := Lib.hid hcg
  obtain ⟨gp, gc, rfl⟩ := hL.globals.form
  obtain ⟨ap, ac, rfl⟩ := hL.arrays.form
  obtain ⟨fp, fc, rfl⟩ := hL.funcs.form
  have HS1 := Lib.hid s1
  have HS2 := Lib.hid s2
  have HS3 := Lib.hid s3
  have HS4 := Lib.hid s4
  clear hL s1 s2 s3 s4 hcg
  unfold CopiedR modV
  go_enter Try.func7, Try.ntmps7
  go_upto_region 1 with (fail)
  obtain ⟨cur, hcur⟩ : ∃ cur : Array Value, cur = #[.slice gp x.globals.length gc, .slice ap x.arrays.length ac, .slice fp x.funcs.length fc, .int .i64 x.main] := ⟨_, rfl⟩
  rw [← hcur]
  have c0 : cur[0]? = some (.slice gp x.globals.length gc) := by rw [hcur]; rfl
  have c1 : cur[1]? = some (.slice ap x.arrays.length ac) := by rw [hcur]; rfl
  have c2 : cur[2]? = some (.slice fp x.funcs.length fc) := by rw [hcur]; rfl
  have c3 : cur[3]? = some (.int .i64 x.main) := by rw [hcur]; rfl
  have hb1 := below_then (below_alloc w (.cells cur 26)) (below_alloc (w.alloc (.cells cur 26)) (.cells #[.slice none 0 0, .slice none 0 0, .slice none 0 0, .int .i64 0] 26))
  have hrow : ((w.alloc (.cells cur 26)).alloc (.cells #[.slice none 0 0, .slice none 0 0, .slice none 0 0, .int .i64 0] 26)).heap[w.heap.size]? = some (.cells cur 26 (0, 0)) := ((below_alloc (w.alloc (.cells cur 26)) _).block w.heap.size (by simp [World.size_alloc])).trans (heap_new w _)
  have hres : ((w.alloc (.cells cur 26)).alloc (.cells #[.slice none 0 0, .slice none 0 0, .slice none 0 0, .int .i64 0] 26)).heap[w.heap.size + 1]? = some (.cells #[.slice none 0 0, .slice none 0 0, .slice none 0 0, .int .i64 0] 26 (0, 0)) := by
    have h := heap_new (w.alloc (.cells cur 26)) (.cells #[.slice none 0 0, .slice none 0 0, .slice none 0 0, .int .i64 0] 26)
    rw [World.size_alloc] at h
    exact h
  have hsz : ((w.alloc (.cells cur 26)).alloc (.cells #[.slice none 0 0, .slice none 0 0, .slice none 0 0, .int .i64 0] 26)).heap.size = w.heap.size + 2 := by rw [World.size_alloc, World.size_alloc]
  generalize hw1 : (w.alloc (.cells cur 26)).alloc (.cells #[.slice none 0 0, .slice none 0 0, .slice none 0 0, .int .i64 0] 26) = w1
  rw [hw1] at hb1 hrow hres hsz
  have H1 := Lib.hid hb1
  have HSZ := Lib.hid hsz
  have HROW := Lib.hid hrow
  have HRES := Lib.hid hres
  have HC := Lib.hid (And.intro c0 (And.intro c1 (And.intro c2 c3)))
  have HI := Lib.hid (fun (wx : World) (hx : Below w.heap.size w wx) => refInts_any x.arrays ap ac wx (HL.out.arrays.below hx) (by have := HS2.out; unfold reachBytes at this; omega))
  obtain ⟨g, hg⟩ : ∃ g, g = w.heap.size := ⟨_, rfl⟩
  have HGE := Lib.hid hg
  rw [← hg] at hrow hres
  rw [← hg]
  have hl : g < w1.heap.size := lt_of_block hrow
  obtain ⟨b1, f1⟩ := cell_of_block hrow c1
  obtain ⟨b3, f3⟩ := cell_of_block hrow c3
  clear hw1 hg hrow hres hb1 hsz c0 c1 c2 c3 hcur
  go_cut [3] (fun v wc => ∃ c, v = .pointer (some ⟨c, 0, none⟩) ∧ Hid (∃ G aq ac, StM x w cur c G aq ac wc))
  case first =>
    have hn0 : w1.heap.size ≠ g := Nat.ne_of_gt hl
    go_region_held3 (fun w' => w'.cell? ⟨g, 1, none⟩ = some (.slice ap x.arrays.length ac) ∧ w'.cell? ⟨g, 3, none⟩ = some (.int .i64 x.main)) (go_keep)
      (first
        | (go_at_call 21; refine (HI.out _ H1.out.drew).mono ?_; rintro e wa ⟨q, d, rfl, l, hb⟩
           have hk : Below w1.heap.size w1 wa := (Below.refl _ w1).drew.trans hb
           have HST := Lib.hid (StM.first (x := x) H1.out (Nat.le_of_eq HSZ.out.symm) HROW.out HRES.out hk l)
           have x1 := (hk.cell (p := ⟨g, 1, none⟩) hl).trans b1
           have x3 := (hk.cell (p := ⟨g, 3, none⟩) hl).trans b3
           have hla : g < wa.heap.size := Nat.lt_of_lt_of_le hl hk.size)
        | (go_at_call 21; refine (HI.out _ (H1.out.alloc H1.out.size _).drew).mono ?_; rintro e wa ⟨q, d, rfl, l, hb⟩
           have hk2 := (Below.refl _ (w1.alloc (.cells #[.slice none 0 0, .slice none 0 0, .slice none 0 0, .int .i64 0] 26))).drew.trans hb
           have hk : Below w1.heap.size w1 wa := below_then (below_alloc w1 _) hk2
           have x1 := (hk.cell (p := ⟨g, 1, none⟩) hl).trans b1
           have x3 := (hk.cell (p := ⟨g, 3, none⟩) hl).trans b3
           have hla : g < wa.heap.size := Nat.lt_of_lt_of_le hl hk.size
           have hnew := (hb.block w1.heap.size (by simp [World.size_alloc])).trans (heap_new w1 _)
           have hst := set_row4 (.slice none 0 0) (.slice q x.arrays.length d) (.slice none 0 0) (.int .i64 x.main) hnew
           have HST := Lib.hid (StM.second (x := x) H1.out (Nat.le_of_eq HSZ.out.symm) HROW.out HRES.out (below_alloc w1 _) (World.size_alloc _ _) hk2 l hst.1 hst.2)
           obtain ⟨a0, e0⟩ := cell_of_block hnew (k := 0) rfl
           obtain ⟨a1, e1⟩ := cell_of_block hnew (k := 1) rfl
           obtain ⟨a2, e2⟩ := cell_of_block hnew (k := 2) rfl
           obtain ⟨a3, e3⟩ := cell_of_block hnew (k := 3) rfl
           have hla2 : w1.heap.size < wa.heap.size := lt_of_block hnew
           clear hnew hst))
    all_goals
      clear hb l hk
      go_wp2_with fail
      go_meet
      refine ⟨_, rfl, ?_⟩
      obtain ⟨G, hG⟩ := HST.out
      exact Lib.hid ⟨G, _, _, hG⟩
  case rest =>
  obtain ⟨c, rfl, HST⟩ := hcut
  obtain ⟨G0, aq, ac2, hst⟩ := HST.out
  have hbox := hst.box
  rw [← HGE.out] at hbox
  clear b1 b3 f1 f3
  obtain ⟨b0, _⟩ := cell_of_block hbox HC.out.1
  obtain ⟨z0, e0⟩ := cell_of_block hst.cell (k := 0) rfl
  have hlg : g < wc.heap.size := lt_of_block hbox
  have hlc : c < wc.heap.size := lt_of_block hst.cell
  have HCEL := Lib.hid hst.cell
  have HS0 := Lib.hid hst
  clear hst hbox
  go_upto_region 2 with (fail)
  go_cut [3] (fun v wd => v = .pointer (some ⟨c, 0, none⟩) ∧ Hid (∃ G pq aq pc ac, OutM x w cur c G pq aq none pc ac 0 0 wd))
  case first =>
    rcases Nat.eq_zero_or_pos x.globals.length with h0 | h0
    · have HM : Hid (∃ G pq aq pc ac, OutM x w cur c G pq aq none pc ac 0 0 (wc.setCell ⟨c, 0, none⟩ (.slice none 0 0))) := Lib.hid (by
        have h := StM.globals (pq := none) (pc := 0) HS0.out (Below.refl _ _) (.inl ⟨h0, _, _, by rw [h0]⟩) rfl
        rw [h0] at h
        obtain ⟨G, h⟩ := h
        exact ⟨G, _, _, _, _, h⟩)
      rw [h0] at b0
      go_wp2_with (
        at_builtin
        refine wpList_append_nil0 (by rfl) _ _ 22 (by rfl) 44 1 Try.underlying22 (by kernel_rfl) gc gp (by rfl) (by rfl) ?_)
      go_meet
      exact ⟨rfl, HM⟩
    · obtain ⟨gb, go, gc', hv, hcap, hgl, _⟩ := SlR.form2 HL.out.globals h0
      injection hv with hv hle hce
      subst hv hce
      clear hle
      have HW : Hid (WordsR wc (.slice (some ⟨gb, go, none⟩) x.globals.length gc) x.globals) := Lib.hid (HL.out.globals.below HS0.out.old)
      have HNW := Lib.hid (news_words HW.out)
      have HR0 : Hid (wc.ownsRow wc.heap.size 44 1 (.slice none 0 0) 0 []) := Lib.hid (World.ownsRow_nil _ _ _ _)
      obtain ⟨i0, hi, hz0, hz1, hz2⟩ := info_parts info_word
      have HI0 := Lib.hid hi
      obtain ⟨n, hn⟩ : ∃ n, n = x.globals.length := ⟨_, rfl⟩
      have HN := Lib.hid hn
      have hnb : n * 4 ≤ 140737488355328 := by have := HS1.out; unfold reachBytes at this; omega
      rw [← hn] at b0 h0
      clear hn hi hgl
      go_wp2_with (
        at_builtin
        go_loud (refine wpList_append_lies _ (by rfl) _ _ 22 (by rfl) wc.heap.size 44 i0 _ 1 4 Try.underlying22 HI0.out hz0 hz1 hz2 rfl (by omega) _ 0 _ (by rfl) HR0.out ⟨gb, go, none⟩ n gc (x.globals.map wv) (by rfl) (by rw [List.length_map, HN.out, Nat.mul_one]) HNW.out mem_wv h0 (by unfold maxLen; omega) (by omega) (Nat.le_refl _) _ rfl ?_)
        intro g5 c5 w5 h5 h6 h7 h8
        have H5 := Lib.hid h5
        have hb5 : Below wc.heap.size wc w5 := Below.grown (Below.refl _ wc) h6 (Nat.le_refl _) (fun q hq => by cases hq)
        have H6 := Lib.hid hb5
        have x0 := (hb5.cell (p := ⟨c, 0, none⟩) hlc).trans z0
        have y0 : w5.frozen? ⟨c, 0, none⟩ = false := by unfold World.frozen? at e0 ⊢; rw [hb5.block c hlc]; exact e0
        have hl5 : c < w5.heap.size := Nat.lt_of_lt_of_le hlc hb5.size
        clear h5 h6 h7 h8 hb5)
      go_meet
      refine ⟨rfl, Lib.hid ?_⟩
      have hnn := HN.out
      have h5 := H5.out
      rw [Nat.zero_add, List.nil_append] at h5
      subst hnn
      obtain ⟨G, h⟩ := StM.globals HS0.out H6.out (words_of_own h5 h0) rfl
      exact ⟨G, _, _, _, _, h⟩
  case rest =>
  obtain ⟨rfl, HM0⟩ := hcut
  obtain ⟨n, hn⟩ : ∃ n, n = x.funcs.length := ⟨_, rfl⟩
  have HN := Lib.hid hn
  have hnb : n * 80 ≤ 140737488355328 := by have := HS3.out; unfold reachBytes at this; omega
  have hnI : (n : Int) ≤ 9223372036854775807 := by omega
  clear hn b0 z0 e0 hlg hlc HCEL HS0 HST
  go_wp2
  go_loopw [4] (fun i wr => ∃ k : Nat, k ≤ n ∧ i = .int .i64 k ∧ Hid (∃ G pq aq bq pc ac bc, OutM x w cur c G pq aq bq pc ac bc k wr)) (fun i _ => n - (intOf i).toNat)
  case atStart =>
    obtain ⟨G, pq, aq, pc, ac, h⟩ := HM0.out
    exact ⟨0, Nat.zero_le _, rfl, Lib.hid ⟨G, _, _, _, _, _, _, h⟩⟩
  case round =>
    obtain ⟨k, hk, rfl, HK⟩ := hrel
    obtain ⟨G, pq, aq, bq, pc, ac, bc, hm⟩ := HK.out
    have hbox := hm.box
    rw [← HGE.out] at hbox
    obtain ⟨b2, _⟩ := cell_of_block hbox HC.out.2.2.1
    rw [← HN.out] at b2
    have hlg : g < wr.heap.size := lt_of_block hbox
    have HM := Lib.hid hm
    clear hm hbox
    by_cases hlt : k < n
    · obtain ⟨fb, fo, fc', hv, hcap, hfl, hcell⟩ := SlR.form2 HL.out.funcs (by have := HN.out; omega)
      injection hv with hv hle hce
      subst hv hce
      clear hle
      have hkl : k < x.funcs.length := by have := HN.out; omega
      obtain ⟨vp, va, vb, hgr⟩ := hcell k hkl _ (List.getElem?_eq_getElem hkl)
      obtain ⟨y, hy⟩ : ∃ y, x.funcs[k] = y := ⟨_, rfl⟩
      rw [hy] at hgr
      have HX : Hid (x.funcs[k]? = some y) := Lib.hid (by rw [← hy]; exact List.getElem?_eq_getElem hkl)
      have hgr2 := hgr.below hfl HM.out.old
      obtain ⟨yp, yc, rfl⟩ := hgr.l.params.form
      obtain ⟨za, zc, rfl⟩ := hgr.l.arrays.form
      obtain ⟨tb, tc, rfl⟩ := hgr.l.blocks.form
      have HCB := Lib.hid (HCG.out y _ _ _ wr hgr2.l (HS4.out y (by rw [← hy]; exact List.getElem_mem hkl)))
      unfold CopiedG grV at HCB
      have c0 := hgr2.cp
      have c1 := hgr2.temps
      have c2 := hgr2.ca
      have c3 := hgr2.cb
      have hfw : fb < wr.heap.size := Nat.lt_of_lt_of_le hfl HM.out.old.size
      have k0 : (0 : Int) ≤ k := by omega
      have k1 : (k : Int) < n := by omega
      have k2 : (n : Int) ≤ fc := by have := HN.out; omega
      obtain ⟨i0, hi, hz0, hz1, hz2⟩ := info_parts info_gr
      have HI0 := Lib.hid hi
      clear hcap hcell hgr hgr2 hy hi hkl
      go_upto_region 7 with (
           go_at_call 22
           go_loud (refine HCB.out.mono ?_)
           rintro e wa ⟨q1, q2, q3, d1, d2, d3, rfl, hl, hb⟩
           obtain ⟨G', hom, hgc⟩ := OutM.ready HM.out hb hl (.cells #[.slice q1 y.params.length d1, .int .i64 y.temps, .slice q2 y.arrays.length d2, .slice q3 y.blocks.length d3] 37) (.cells #[.slice q1 y.params.length d1, .int .i64 y.temps, .slice q2 y.arrays.length d2, .slice q3 y.blocks.length d3] 37)
           obtain ⟨xs, hrow, hel⟩ := hom.row.row
           have HOM := Lib.hid hom
           have HGC := Lib.hid hgc
           have HRW := Lib.hid hrow
           have HEL := Lib.hid hel
           have HB := Lib.hid hb
           have hx2 := (hb.block c (lt_of_block HM.out.cell)).trans HM.out.cell
           obtain ⟨x2, e2⟩ := cell_of_block hx2 (k := 2) rfl
           have hlc := lt_of_block hx2
           have HNW := Lib.hid (news_at (w := wa.alloc (.cells #[.slice q1 y.params.length d1, .int .i64 y.temps, .slice q2 y.arrays.length d2, .slice q3 y.blocks.length d3] 37)) (l := [.slice q1 y.params.length d1, .int .i64 y.temps, .slice q2 y.arrays.length d2, .slice q3 y.blocks.length d3]) (t := 37) (H := wa.heap.size + 1) (World.size_alloc _ _))
           clear hb hl hom hgc hrow hel hx2)
      go_wp2_with (
           at_builtin
           go_loud (refine wpList_append_lies _ (by rfl) _ _ 24 (by rfl) (c + 1) 37 i0 _ 4 80 Try.underlying24 HI0.out hz0 hz1 hz2 rfl (by omega) _ k _ (by rfl) HRW.out ⟨wa.heap.size + 1, 0, none⟩ 1 1 [.slice q1 y.params.length d1, .int .i64 y.temps, .slice q2 y.arrays.length d2, .slice q3 y.blocks.length d3] (by rfl) rfl HNW.out (by simp [Value.oneCell']) (by omega) (by unfold maxLen; omega) (by omega) (by simp [World.size_alloc]; omega) _ rfl ?_)
           intro g5 c5 w5 h5 h6 h7 h8
           have hx5 := OutM.cell5 HOM.out HRW.out h6
           obtain ⟨x2', e2'⟩ := cell_of_block hx5 (k := 2) rfl
           have hlc5 := lt_of_block hx5
           have HFIN := Lib.hid (OutM.close HOM.out HGC.out HX.out HRW.out HEL.out ⟨rfl, rfl, rfl, rfl⟩ h5 h6 h7)
           clear h5 h6 h7 h8 hx5 x2 e2 hlc)
      exact ⟨⟨k + 1, Nat.succ_le_of_lt hlt, by go_num, Lib.hid ⟨_, _, _, _, _, _, _, HFIN.out⟩⟩, by simp [intOf]; omega⟩
    · obtain rfl : k = n := by omega
      have hres := HM.out.res
      have hcell := HM.out.cell
      rw [← HGE.out] at hres
      obtain ⟨r0, z0⟩ := cell_of_block hres (k := 0) rfl
      obtain ⟨r1, z1⟩ := cell_of_block hres (k := 1) rfl
      obtain ⟨r2, z2⟩ := cell_of_block hres (k := 2) rfl
      obtain ⟨r3, z3⟩ := cell_of_block hres (k := 3) rfl
      obtain ⟨q0, _⟩ := cell_of_block hcell (k := 0) rfl
      obtain ⟨q1, _⟩ := cell_of_block hcell (k := 1) rfl
      obtain ⟨q2, _⟩ := cell_of_block hcell (k := 2) rfl
      obtain ⟨q3, _⟩ := cell_of_block hcell (k := 3) rfl
      have hlr := lt_of_block hres
      have hlc := lt_of_block hcell
      have HEND := Lib.hid (set_row4 (.slice pq x.globals.length pc) (.slice aq x.arrays.length ac) (.slice bq k bc) (.int .i64 x.main) hres)
      have HDONE := Lib.hid (fun (we : World) (hwe : wr.grownBy we (some (w.heap.size + 1))) => OutM.done (x := x) (w0 := w) (box := cur) (g3 := c) (G := G) (pq := pq) (aq := aq) (bq := bq) (pc := pc) (ac := ac) (bc := bc) (by have h := HM.out; rw [HN.out] at h; exact h) hwe)
      clear hres hcell
      go_wp2
      obtain ⟨gw, ew⟩ := HEND.out
      generalize ((((World.setCell wr ⟨g + 1, 0, none⟩ (.slice pq x.globals.length pc)).setCell ⟨g + 1, 1, none⟩ (.slice aq x.arrays.length ac)).setCell ⟨g + 1, 2, none⟩ (.slice bq k bc)).setCell ⟨g + 1, 3, none⟩ (.int .i64 x.main)) = we at gw ew ⊢
      obtain ⟨p0, _⟩ := cell_of_block ew (k := 0) rfl
      obtain ⟨p1, _⟩ := cell_of_block ew (k := 1) rfl
      obtain ⟨p2, _⟩ := cell_of_block ew (k := 2) rfl
      obtain ⟨p3, _⟩ := cell_of_block ew (k := 3) rfl
      have HF := Lib.hid (HDONE.out we (by rw [← HGE.out]; exact gw))
      clear ew gw
      try simp only [Exit.inBlock, Exit.then]
      refine bodyPost_ret (v := .agg #[.slice pq x.globals.length pc, .slice aq x.arrays.length ac, .slice bq k bc, .int .i64 x.main]) ?_ rfl ?_
      · simp [results, Try.results7, go_sem, p0, p1, p2, p3]
      · have h1 := HF.out.1
        rw [← HN.out] at h1
        exact ⟨_, _, _, _, _, _, by rw [HN.out], by rw [← HN.out]; exact h1, HF.out.2⟩
end Go.Proofs.Ytacbfjinellonaa.Graph
