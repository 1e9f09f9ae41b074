/- The law GraphNext. -/
import Derived.Test.YtacbfjinellonaaIf
import Derived.Test.YtacbfjinellonaaHh
import Derived.Test.YtacbfjinellonaaGd
namespace Go.Proofs.Ytacbfjinellonaa.Graph
open Go.RowKit

theorem own_below {w w' : World} {B B' : Nat} {e : TypeId} {k : Nat} {v : Value} {n : Nat} {xs : List Value} (h : w.ownsRow B' e k v n xs) (hb : Below B w w') (hB : ∀ g, v.ownBlock = some g → g < B) : w'.ownsRow B' e k v n xs := by
  obtain ⟨h1, h2⟩ := h
  refine ⟨h1, ?_⟩
  rcases h2 with h2 | ⟨g, cap, cur, rfl, h4, h5, h6⟩
  · exact .inl h2
  · exact .inr ⟨g, cap, cur, rfl, h4, (hb.block g (hB g rfl)).trans h5, h6⟩
theorem own_slice {w : World} {B : Nat} {e : TypeId} {k : Nat} {v : Value} {n : Nat} {xs : List Value} (h : w.ownsRow B e k v n xs) : ∃ p c, v = .slice p n c := by
  rcases h.2 with ⟨rfl, h0⟩ | ⟨g, cap, cur, rfl, _⟩
  · exact ⟨_, _, by rw [h0]⟩
  · exact ⟨_, _, rfl⟩
theorem grown_row {w w' : World} {B' : Nat} {e : TypeId} {k : Nat} {v : Value} {n : Nat} {xs : List Value} {r : Option Nat} (h : w.ownsRow B' e k v n xs) (hb : w.grownBy w' r) (hr : ∀ g, r = some g → g < B') : w'.ownsRow B' e k v n xs := by
  obtain ⟨h1, h2⟩ := h
  refine ⟨h1, ?_⟩
  rcases h2 with h2 | ⟨g, cap, cur, rfl, h4, h5, h6⟩
  · exact .inl h2
  · exact .inr ⟨g, cap, cur, rfl, h4, (hb.block g (lt_of_block h5) (fun e => by have := hr g e.symm; omega)).trans h5, h6⟩
theorem own_set {w : World} {B : Nat} {p : Option Addr} {n c k : Nat} {xs : List Value} {u : Value} (h : w.ownsRow B 3 1 (.slice p n c) n xs) (hk : k < n) :
    ∃ g, p = some ⟨g, 0, none⟩ ∧ B ≤ g ∧ g < w.heap.size ∧ n ≤ c ∧ (∃ u0, w.cell? ⟨g, k, none⟩ = some u0) ∧ w.frozen? ⟨g, k, none⟩ = false ∧ (∃ ys, (w.setCell ⟨g, k, none⟩ u).ownsRow B 3 1 (.slice p n c) n ys) ∧ w.grownBy (w.setCell ⟨g, k, none⟩ u) (some g) := by
  rcases h.2 with ⟨_, h0⟩ | ⟨g, cap, cur, hv, hB, hg, h1, h2, h3, h4⟩
  · omega
  · injection hv with hv _ hc
    subst hv hc
    obtain ⟨h5, h6⟩ := World.ownsRow.stored h k u
    have hks : k < cur.size := by omega
    obtain ⟨h7, h8⟩ := cell_of_block hg (k := k) (v := cur[k]) (by simp [hks])
    exact ⟨g, rfl, hB, lt_of_block hg, h1, ⟨_, h7⟩, h8, ⟨_, h5⟩, h6⟩
theorem grown_trans {w w2 w3 : World} {r : Option Nat} (h : w.grownBy w2 r) (h2 : w2.grownBy w3 r) : w.grownBy w3 r :=
  ⟨h2.1.trans h.1, h2.2.trans h.2, h2.3.trans h.3, Nat.le_trans h.size h2.size, fun k hk hne => (h2.block k (Nat.lt_of_lt_of_le hk h.size) hne).trans (h.block k hk hne)⟩
theorem own_len {w : World} {B : Nat} {p : Option Addr} {n c : Nat} {xs : List Value} (h : w.ownsRow B 3 1 (.slice p n c) n xs) : n ≤ c ∧ c ≤ 9223372036854775807 := by
  rcases h.2 with ⟨h0, h1⟩ | ⟨g, cap, cur, hv, _, _, h1, h2, _⟩
  · injection h0 with _ _ h0; omega
  · injection hv with _ _ hv; subst hv; exact ⟨h1, h2⟩
set_option maxHeartbeats 8000000 in
set_option maxRecDepth 100000 in
theorem graphNext_any (x : PGr) (vp va vb : Value) (b : Int) (w : World) (h : GrL w vp va vb x) (hs : SmG x) :
    Calls Try.prog 4 #[grV x vp va vb, .int .i64 b] w (Is (.bool true) w) := by
  have HN := Lib.hid (fun (wx : World) (hx : Below w.heap.size w wx) => next_any x vp va vb b wx (h.below hx) hs)
  have HR := Lib.hid (fun (wx : World) (hx : Below w.heap.size w wx) => rnext_any x vp va vb b wx (h.below hx) hs)
  have HC := Lib.hid (fun (wx : World) (hx : Below w.heap.size w wx) => count_any x vp va vb wx (h.below hx))
  have HD := Lib.hid (fun (wx : World) (hx : Below w.heap.size w wx) => rcount_any x vp va vb wx (h.below hx))
  obtain ⟨pp, pc, rfl⟩ := h.params.form
  obtain ⟨ap, ac, rfl⟩ := h.arrays.form
  obtain ⟨bp, bc, rfl⟩ := h.blocks.form
  obtain ⟨L, hL⟩ : ∃ L, L = nextL x b := ⟨_, rfl⟩
  rw [← hL] at HN HR
  unfold grV countV at *
  clear h hL hs
  go_enter Try.func4, Try.ntmps4
  go_wp2_with (first
    | (
      go_at_call 12
      refine (HN.out _ (below_alloc w _)).mono ?_
      rintro e w2 ⟨v2, rfl, h2, h2b⟩
      obtain ⟨p2, q2, rfl⟩ := own_slice h2
      have B2 : Box4 w2 w.heap.size (.slice pp x.params.length pc) (.int .i64 x.temps) (.slice ap x.arrays.length ac) (.slice bp x.blocks.length bc) := Box4.below ⟨by go_simp, by go_simp, by go_simp, by go_simp, by go_simp⟩ h2b
      have X2 := Lib.hid (World.size_alloc w (.cells #[.slice pp x.params.length pc, .int .i64 x.temps, .slice ap x.arrays.length ac, .slice bp x.blocks.length bc] 37))
      have O2 := Lib.hid h2
      have H2 := Lib.hid (below_then (below_alloc w _) h2b)
      have HB2 := Lib.hid B2
      obtain ⟨y0, y1, y2, y3, y4⟩ := B2
      clear h2 h2b)
    | (
      go_at_call 13
      refine (HR.out _ H2.out).mono ?_
      rintro e w3 ⟨v3, rfl, h3, h3b⟩
      obtain ⟨p3, q3, rfl⟩ := own_slice h3
      have B3 := HB2.out.below h3b
      have O3 := Lib.hid h3
      have L3 := Lib.hid h3b
      have H3 := Lib.hid (below_then H2.out h3b)
      have HB3 := Lib.hid B3
      clear y0 y1 y2 y3 y4
      obtain ⟨y0, y1, y2, y3, y4⟩ := B3
      clear h3 h3b)
    | (
      go_at_call 14
      refine (HC.out _ H3.out).mono ?_
      rintro e w4 ⟨rfl, h4b⟩
      have B4 := HB3.out.below h4b
      have L4 := Lib.hid (below_then L3.out h4b)
      have H4 := Lib.hid (below_then H3.out h4b)
      have M4 := Lib.hid h4b
      have HB4 := Lib.hid B4
      clear y0 y1 y2 y3 y4
      obtain ⟨y0, y1, y2, y3, y4⟩ := B4
      clear h4b)
    | (
      go_at_call 15
      refine (HD.out _ H4.out).mono ?_
      rintro e w5 ⟨rfl, h5b⟩
      have B5 := HB4.out.below h5b
      have L5 := Lib.hid (below_then L4.out h5b)
      have H5 := Lib.hid (below_then H4.out h5b)
      have M5 := Lib.hid (below_then M4.out h5b)
      have HB5 := Lib.hid B5
      clear y0 y1 y2 y3 y4 h5b)
    | (
      go_at_call 16
      refine (ints_any L L _ _ w5 (ints_of_own (row_below O2.out L5.out)) (ints_of_own (row_below O3.out M5.out))).mono ?_
      rintro e w6 ⟨rfl, h6b⟩
      have B6 := HB5.out.below h6b
      have L6 := Lib.hid (below_then L5.out h6b)
      have H6 := Lib.hid (below_then H5.out h6b)
      have M6 := Lib.hid (below_then M5.out h6b)
      have HB6 := Lib.hid B6
      have hLL : decide (L = L) = true := decide_eq_true rfl
      clear h6b))
  obtain ⟨n, hn⟩ : ∃ n, n = L.length := ⟨_, rfl⟩
  have HNL := Lib.hid hn
  have hq := own_len O2.out
  rw [← hn] at hq
  rw [← hn]
  have q0 : (n : Int) ≤ q2 := by omega
  have q1 : (q2 : Int) ≤ 9223372036854775807 := by omega
  have q4 : n ≤ 9223372036854775807 := by omega
  have O6 : Hid (w6.ownsRow (w.alloc (.cells #[.slice pp x.params.length pc, .int .i64 x.temps, .slice ap x.arrays.length ac, .slice bp x.blocks.length bc] 37)).heap.size 3 1 (.slice p2 n q2) n (L.map iv)) := Lib.hid (by rw [hn]; exact row_below O2.out L6.out)
  have HBND : Hid (∀ g, p2 = some ⟨g, 0, none⟩ → g < w2.heap.size) := Lib.hid (fun g hg => by
    have h := (World.ownsRow.lt O2.out g (by rw [hg]; rfl)).2
    exact h)
  clear hn hq hLL
  go_loopw [13] (fun i wr => ∃ k : Nat, k ≤ n ∧ i = .int .i64 k ∧ Hid (∃ ys, wr.ownsRow (w.alloc (.cells #[.slice pp x.params.length pc, .int .i64 x.temps, .slice ap x.arrays.length ac, .slice bp x.blocks.length bc] 37)).heap.size 3 1 (.slice p2 n q2) n ys) ∧ Hid (w6.grownBy wr (Value.slice p2 n q2).ownBlock)) (fun i _ => n - (intOf i).toNat)
  case atStart => exact ⟨0, Nat.zero_le _, rfl, Lib.hid ⟨_, O6.out⟩, Lib.hid (World.grownBy.refl _ _)⟩
  case round =>
    obtain ⟨k, hk, rfl, HY, HG⟩ := hrel
    by_cases hlt : k < n
    · obtain ⟨ys, hys⟩ := HY.out
      obtain ⟨g, rfl, hB, hgs, hnc, ⟨u0, hcell⟩, hfr, hset, hgr⟩ := own_set (u := .int .i64 (-9)) hys hlt
      have k0 : (0 : Int) ≤ k := by omega
      have k1 : (k : Int) < n := by omega
      have HSET := Lib.hid hset
      have HGR := Lib.hid (grown_trans HG.out hgr)
      clear hys hset hgr
      go_wp2
      exact ⟨⟨k + 1, Nat.succ_le_of_lt hlt, by go_num, HSET, HGR⟩, by simp [intOf]; omega⟩
    · obtain rfl : k = n := by omega
      have hbk : ∀ g, (Value.slice p2 k q2).ownBlock = some g → w.heap.size < g ∧ g < w2.heap.size := fun g hg => by
        have h := (World.ownsRow.lt O2.out g (by rw [← HNL.out]; exact hg))
        have hx := X2.out
        omega
      have hgb := HG.out
      have hb7 : Below w.heap.size w wr := ⟨hgb.1.trans H6.out.1, hgb.2.trans H6.out.2, hgb.3.trans H6.out.3, Nat.le_trans H6.out.size hgb.size, fun j hj => (hgb.block j (Nat.lt_of_lt_of_le hj H6.out.size) (fun e => by have := (hbk j e.symm).1; omega)).trans (H6.out.block j hj)⟩
      have B7 : Box4 wr w.heap.size (.slice pp x.params.length pc) (.int .i64 x.temps) (.slice ap x.arrays.length ac) (.slice bp x.blocks.length bc) := by
        obtain ⟨y0, y1, y2, y3, y4⟩ := HB6.out
        have hblk : wr.heap[w.heap.size]? = w6.heap[w.heap.size]? := hgb.block _ y0 (fun e => by have := (hbk _ e.symm).1; omega)
        refine ⟨Nat.lt_of_lt_of_le y0 hgb.size, ?_, ?_, ?_, ?_⟩
        · rw [← y1]; unfold World.cell?; rw [hblk]
        · rw [← y2]; unfold World.cell?; rw [hblk]
        · rw [← y3]; unfold World.cell?; rw [hblk]
        · rw [← y4]; unfold World.cell?; rw [hblk]
      have O7 := Lib.hid (grown_row (row_below O3.out M6.out) hgb (fun g hg => (hbk g hg).2))
      have H7 := Lib.hid hb7
      have HB7 := Lib.hid B7
      clear hbk hgb hb7
      obtain ⟨y0, y1, y2, y3, y4⟩ := B7
      go_wp2_with (first
      | (
        go_at_call 12
        refine (HN.out _ H7.out).mono ?_
        rintro e w8 ⟨v8, rfl, h8, h8b⟩
        have O8 := Lib.hid h8
        have O9 := Lib.hid (row_below O7.out h8b)
        have H8 := Lib.hid (below_then H7.out h8b)
        clear h8 h8b)
      | (
        go_at_call 16
        go_loud (refine (ints_any L L _ _ w8 (ints_of_own O8.out) (by have h := ints_of_own O9.out; rw [← HNL.out] at h; exact h)).mono ?_)
        rintro e w9 ⟨rfl, h9b⟩
        have H9 := Lib.hid (below_then H8.out h9b)
        have hLL : decide (L = L) = true := decide_eq_true rfl
        clear h9b)
      | (
        go_at_call 11
        refine (live_any w9).mono ?_
        rintro e w10 ⟨rfl, h10b⟩
        have H10 := Lib.hid (below_then H9.out h10b)
        clear h10b))
      go_ret
      exact ⟨rfl, H10.out⟩
end Go.Proofs.Ytacbfjinellonaa.Graph
