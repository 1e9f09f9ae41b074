/- The program's Next. -/
import Derived.Test.YtcijaaiopfbffaaDoorYb
import Derived.Test.YtcijaaiopfbffaaDoorShelf
import Derived.Sort.OwnSortedInts
namespace Go.Proofs.YtcijaaiopfbffaaDoor.Graph
open Go.RowKit

def sortL (l : List Int) : List Int := l.mergeSort fun x y => decide (x ≤ y)
/-- Sizes, as far as where blocks lead asks for them. -/
def SmN (x : PGr) : Prop := ∀ b ∈ x.blocks, SmE b.fin
theorem SmG.n {x : PGr} (h : SmG x) : SmN x := fun b hb => (h.2.2.2 b hb).2.2
def nextL (x : PGr) (b : Int) : List Int := if belowB b x.blocks.length then match x.blocks[b.toNat]? with | some t => Lib.compact (sortL (namedL t.fin)) | none => [] else []
theorem sortL_len (l : List Int) : (sortL l).length = l.length := by unfold sortL; rw [List.length_mergeSort]
theorem compact_le (l : List Int) : (Lib.compact l).length ≤ l.length := by
  unfold Lib.compact Lib.compactUpTo
  rw [List.length_map]
  exact Nat.le_trans (List.length_filter_le _ _) (by simp)
open Go.Sort in
theorem sort_own (B : Nat) (v : Value) (zs : List Int) (w : World) (h : w.ownsRow B 3 1 v zs.length (zs.map iv)) (hn : zs.length < 4611686018427387904) :
    Calls Tryd.prog 71 #[v] w fun e w' => e = .returned (.tuple #[]) ∧ w'.ownsRow B 3 1 v zs.length ((sortL zs).map iv) ∧ Below B w w' := by
  by_cases h0 : zs.length = 0
  · have e1 : zs = [] := List.length_eq_zero_iff.1 h0
    subst e1
    rcases h.2 with ⟨rfl, _⟩ | ⟨g, cap, cur, rfl, _⟩
    · exact (Tryd.slices_Sort_int_none none 0 w).mono fun e w' hh => by
        obtain ⟨rfl, rfl⟩ := hh
        exact ⟨rfl, by simpa [sortL] using h, Below.refl _ _⟩
    · exact (Tryd.slices_Sort_int_none _ cap w).mono fun e w' hh => by
        obtain ⟨rfl, rfl⟩ := hh
        exact ⟨rfl, by simpa [sortL] using h, Below.refl _ _⟩
  · rcases h.2 with ⟨_, hz⟩ | ⟨g, cap, cur, rfl, hB, hg, h1, h2, h3, h4⟩
    · exact absurd hz h0
    · rw [Nat.mul_one] at h4
      refine (Tryd.slices_Sort_int g 0 cap zs w (holds_of_blockI hg h4) (lt_of_block hg) hn).mono fun e w' hh => ?_
      obtain ⟨rfl, n, os, rfl⟩ := hh
      refine ⟨rfl, ownsRow_sortedI (sortL_len zs) hB hg h1 h2 h3, ?_⟩
      have hgr := grownBy_sortedI (w := w) (g := g) (n := n) (os := os) (sortL zs).toArray
      have hlt := lt_of_block hg
      exact ⟨hgr.1, hgr.2, hgr.3, hgr.size, fun k hk => hgr.block k (by omega) (fun e => by injection e with e; omega)⟩
open Go.Sort in
theorem compact_own (B : Nat) (v : Value) (zs : List Int) (w : World) (h : w.ownsRow B 3 1 v zs.length (zs.map iv)) (hn : zs.length ≤ 9223372036854775807) :
    Calls Tryd.prog 72 #[v] w fun e w' => ∃ v', e = .returned v' ∧ w'.ownsRow B 3 1 v' (Lib.compact zs).length ((Lib.compact zs).map iv) ∧ Below B w w' := by
  by_cases h0 : zs.length = 0
  · have e1 : zs = [] := List.length_eq_zero_iff.1 h0
    subst e1
    rcases h.2 with ⟨rfl, _⟩ | ⟨g, cap, cur, rfl, _⟩
    · exact (Tryd.slices_Compact_int_empty none 0 w).mono fun e w' hh => by
        obtain ⟨rfl, rfl⟩ := hh
        exact ⟨_, rfl, by simpa [Lib.compact, Lib.compactUpTo] using h, Below.refl _ _⟩
    · exact (Tryd.slices_Compact_int_empty _ cap w).mono fun e w' hh => by
        obtain ⟨rfl, rfl⟩ := hh
        exact ⟨_, rfl, by simpa [Lib.compact, Lib.compactUpTo] using h, Below.refl _ _⟩
  · rcases h.2 with ⟨_, hz⟩ | ⟨g, cap, cur, rfl, hB, hg, h1, h2, h3, h4⟩
    · exact absurd hz h0
    · rw [Nat.mul_one] at h4
      refine (Tryd.slices_Compact_int g 0 cap zs w (holds_of_blockI hg h4) hn h1).mono fun e w' hh => ?_
      obtain ⟨rfl, n, rfl⟩ := hh
      have hc := compact_le zs
      have hlen : (Lib.compact zs ++ List.replicate (zs.length - (Lib.compact zs).length) 0).length = zs.length := by simp; omega
      have hrow := ownsRow_sortedI (n := n) (os := #[]) (e := 3) (ts := Lib.compact zs ++ List.replicate (zs.length - (Lib.compact zs).length) 0) hlen hB hg h1 h2 h3
      rw [Go.Sort.grow_empty] at hrow
      have hgr := grownBy_sortedI (w := w) (g := g) (n := n) (os := #[]) (Lib.compact zs ++ List.replicate (zs.length - (Lib.compact zs).length) 0).toArray
      rw [Go.Sort.grow_empty] at hgr
      have hlt := lt_of_block hg
      refine ⟨_, rfl, ?_, ⟨hgr.1, hgr.2, hgr.3, hgr.size, fun k hk => hgr.block k (by omega) (fun e => by injection e with e; omega)⟩⟩
      obtain ⟨_, hr⟩ := hrow
      rcases hr with ⟨hv, _⟩ | ⟨g', cap', cur', hv, _, hg', _, _, hs', ht'⟩
      · cases hv
      · injection hv with hv _ hv3
        injection hv with hv
        injection hv with hv
        subst hv hv3
        refine ⟨by simp, .inr ⟨g, cap, cur', rfl, hB, hg', by omega, h2, hs', ?_⟩⟩
        have ht2 := congrArg (List.take (Lib.compact zs).length) ht'
        rw [List.take_take, Nat.mul_one, Nat.min_eq_left hc] at ht2
        rw [Nat.mul_one, ht2, List.map_append, List.take_append_of_le_length (by simp), ← List.length_map (f := iv)]
        exact List.take_length
theorem own_base {w : World} {B B' : Nat} {e : TypeId} {k : Nat} {v : Value} {n : Nat} {xs : List Value} (h : w.ownsRow B e k v n xs) (hb : B' ≤ B) : w.ownsRow B' e k v n xs :=
  ⟨h.1, h.2.imp id fun ⟨g, cap, cur, h1, h2, h3⟩ => ⟨g, cap, cur, h1, Nat.le_trans hb h2, h3⟩⟩
theorem named_len (e : PEnd) (h : SmE e) : (namedL e).length * 8 ≤ 140737488355328 := by
  obtain ⟨h1, h2⟩ := h
  unfold reachBytes at h1 h2
  unfold namedL
  (repeat' split) <;> simp only [List.length_cons, List.length_nil, List.length_map] <;> omega
set_option maxHeartbeats 4000000 in
set_option maxRecDepth 100000 in
theorem next_any (x : PGr) (vp va vb : Value) (b : Int) (w : World) (h : GrL w vp va vb x) (hs : SmN x) :
    Calls Tryd.prog 53 #[grV x vp va vb, .int .i64 b] w (OwnL w (nextL x b)) := by
  obtain ⟨pp, pc, rfl⟩ := h.params.form
  obtain ⟨ap, ac, rfl⟩ := h.arrays.form
  have HB := Lib.hid h.blocks
  obtain ⟨bp, bc, rfl⟩ := h.blocks.form
  have HS := Lib.hid hs
  unfold grV
  obtain ⟨n, hn⟩ : ∃ n, n = x.blocks.length := ⟨_, rfl⟩
  have HN := Lib.hid hn
  have hL : nextL x b = if belowB b n then match x.blocks[b.toNat]? with | some t => Lib.compact (sortL (namedL t.fin)) | none => [] else [] := by rw [hn]; rfl
  rw [← hn, hL]
  have HBL := Lib.hid (fun w => below_any b n w)
  clear h hs hn hL
  by_cases hb : belowB b n = true
  case neg =>
    have hb2 : belowB b n = false := by simpa using hb
    rw [hb2] at HBL ⊢
    clear hb hb2
    go_enter Tryd.func53, Tryd.ntmps53
    go_wp2_with (go_at_call 69; refine (HBL.out _).mono ?_; rintro e w2 ⟨rfl, h2⟩; have H2 := Lib.hid h2; clear h2)
    go_ret
    exact ⟨_, rfl, World.ownsRow_nil _ _ _ _, by rw [H2.out]; exact below_alloc w _⟩
  have hb1 : 0 ≤ b ∧ b < n := by simpa [belowB] using hb
  obtain ⟨b0, b1⟩ := hb1
  rw [hb] at HBL ⊢
  rw [if_pos rfl]
  obtain ⟨t, ht⟩ : ∃ t, x.blocks[b.toNat]? = some t := ⟨_, List.getElem?_eq_getElem (by have := HN.out; omega)⟩
  rw [ht]
  obtain ⟨g, o, cap, hv, hcap, hgl, _⟩ := SlR.form2 HB.out (by have := HN.out; omega)
  injection hv with hv hv1 hv2
  clear hv1
  subst hv hv2
  obtain ⟨m1, m2⟩ := hcap
  have HT : Hid (SmE t.fin) := Lib.hid (HS.out t (List.mem_of_getElem? ht))
  have HAT := Lib.hid (fun (wr : World) (hw : Below w.heap.size w wr) => blk_at HB.out hw ht)
  have i2 : (n : Int) ≤ bc := by have := HN.out; omega
  have i3 : (bc : Int) ≤ 9223372036854775807 := by omega
  clear hb ht m1 m2 HS
  go_enter Tryd.func53, Tryd.ntmps53
  go_upto_region 3 with (go_at_call 69; refine (HBL.out _).mono ?_; rintro e w2 ⟨rfl, rfl⟩)
  generalize hbx : Obj.cells #[.slice pp x.params.length pc, .int .i64 x.temps, .slice ap x.arrays.length ac, .slice (some ⟨g, o, none⟩) n bc] 26 = bx
  have hb1 := below_alloc w bx
  have HB1 := Lib.hid hb1
  obtain ⟨pk, ck, pc2, cc2, pt, ct, ⟨c0, c1, c2, c3, c4, c5, c6, c7, c8, c9⟩, _, hl, l0⟩ := HAT.out _ hb1
  have d0 : (w.alloc bx).cell? ⟨w.heap.size, 3, none⟩ = some (.slice (some ⟨g, o, none⟩) n bc) := by rw [← hbx]; exact (cell_of_block (heap_new w _) (k := 3) rfl).1
  have HNM := Lib.hid (named_any t.fin _ _ _ hl HT.out)
  unfold endV at HNM
  have HLN := Lib.hid (named_len t.fin HT.out)
  clear hb1 hl hbx
  go_wp2_with (first
    | (go_at_call 70; refine HNM.out.mono ?_; rintro e w3 ⟨v, rfl, h3, h3b⟩; have H3 := Lib.hid (own_base h3 HB1.out.size); have HB3 := Lib.hid (below_then HB1.out h3b); clear h3 h3b)
    | (go_at_call 71; refine (sort_own w.heap.size v _ w3 H3.out (by have := HLN.out; omega)).mono ?_; rintro e w4 ⟨rfl, h4, h4b⟩; have H4 := Lib.hid h4; have HB4 := Lib.hid (HB3.out.trans h4b); clear h4 h4b)
    | (go_at_call 72; refine (compact_own w.heap.size v (sortL (namedL t.fin)) w4 (by rw [sortL_len]; exact H4.out) (by rw [sortL_len]; have := HLN.out; omega)).mono ?_; rintro e w5 ⟨v5, rfl, h5, h5b⟩; have H5 := Lib.hid h5; have HB5 := Lib.hid (HB4.out.trans h5b); clear h5 h5b))
  go_ret
  exact ⟨_, rfl, H5.out, HB5.out⟩
end Go.Proofs.YtcijaaiopfbffaaDoor.Graph
