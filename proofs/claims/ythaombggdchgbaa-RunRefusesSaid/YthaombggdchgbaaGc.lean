/- Count: how many blocks, instructions, EndIfs; the program's and the document's. -/
import Derived.Test.YthaombggdchgbaaGb
namespace Go.Proofs.Ythaombggdchgbaa.Graph
open Go.RowKit

def ifN (l : List PBlk) : Nat := l.countP (fun b => b.fin.kind == 2)
theorem codeW_take {l : List PBlk} {k : Nat} {t : PBlk} (ht : l[k]? = some t) : codeW (l.take (k + 1)) = wrap64 (codeW (l.take k) + (t.code.length : Int)) := by
  unfold codeW; rw [List.take_add_one, ht, Option.toList_some, List.foldl_append]; rfl
theorem if_le (l : List PBlk) (k : Nat) : ifN (l.take k) ≤ k := by unfold ifN; exact Nat.le_trans List.countP_le_length (by simp; omega)
theorem if_take {l : List PBlk} {k : Nat} {t : PBlk} (ht : l[k]? = some t) : (ifN (l.take (k + 1)) : Int) = ifN (l.take k) + (if t.fin.kind = 2 then 1 else 0) := by
  unfold ifN
  rw [List.take_add_one, ht, Option.toList_some, List.countP_append]
  simp [List.countP_cons]
  split <;> simp
theorem lt_alloc {w : World} {n : Nat} {o : Obj} (h : n < w.heap.size) : n < (w.alloc o).heap.size := Nat.lt_of_lt_of_le h (below_alloc w o).size
theorem cell_alloc {w : World} {b o : Nat} {x : Obj} {v : Option Value} (hb : b < w.heap.size) (h : w.cell? ⟨b, o, none⟩ = v) : (w.alloc x).cell? ⟨b, o, none⟩ = v := (cell_below (below_alloc w x) hb o).trans h
/-- A block's ten cells. -/
def BlkC (w : World) (b o : Nat) (x : PBlk) (vk vc vt : Value) : Prop :=
  w.cell? ⟨b, o, none⟩ = some vk ∧ w.cell? ⟨b, o + 1, none⟩ = some (.int .i64 x.fin.kind) ∧ w.cell? ⟨b, o + 2, none⟩ = some (.int .i64 x.fin.op) ∧ w.cell? ⟨b, o + 3, none⟩ = some (.int .i64 x.fin.a) ∧
  w.cell? ⟨b, o + 4, none⟩ = some (.int .i64 x.fin.b) ∧ w.cell? ⟨b, o + 5, none⟩ = some (.int .u32 x.fin.n) ∧ w.cell? ⟨b, o + 6, none⟩ = some (.int .i64 x.fin.to) ∧ w.cell? ⟨b, o + 7, none⟩ = some (.int .i64 x.fin.els) ∧
  w.cell? ⟨b, o + 8, none⟩ = some vc ∧ w.cell? ⟨b, o + 9, none⟩ = some vt
theorem BlkR.cells {w : World} {b o : Nat} {x : PBlk} {vk vc vt : Value} (h : BlkR w b o x vk vc vt) : BlkC w b o x vk vc vt :=
  ⟨h.ck, h.fin.kind, h.fin.op, h.fin.fa, h.fin.fb, h.fin.n, h.fin.to, h.fin.els, h.fin.cc, h.fin.ct⟩
/-- A block of a list, in a later world. -/
theorem blk_at {w wr : World} {g o cap n : Nat} {l : List PBlk} (h : BlksR w (.slice (some ⟨g, o, none⟩) n cap) l) (hb : Below w.heap.size w wr) {k : Nat} {t : PBlk} (ht : l[k]? = some t) :
    ∃ pk ck pc cc pt ct, BlkC wr g (o + k * 10) t (.slice pk t.code.length ck) (.slice pc t.fin.cases.length cc) (.slice pt t.fin.targets.length ct) ∧
      CodeR wr (.slice pk t.code.length ck) t.code ∧ EndL wr (.slice pc t.fin.cases.length cc) (.slice pt t.fin.targets.length ct) t.fin ∧ g < wr.heap.size := by
  have hk : k < l.length := by
    rcases Nat.lt_or_ge k l.length with h | h
    · exact h
    · rw [List.getElem?_eq_none h] at ht; cases ht
  obtain ⟨h1, h2⟩ := SlR.at_ h hk
  obtain ⟨vk, vc, vt, h3⟩ := h1 t ht
  replace h3 := h3.below h2 hb
  obtain ⟨pk, ck, rfl⟩ := h3.code.form
  obtain ⟨pc, cc, rfl⟩ := h3.fin.l.cases.form
  obtain ⟨pt, ct, rfl⟩ := h3.fin.l.targets.form
  exact ⟨pk, ck, pc, cc, pt, ct, h3.cells, h3.code, h3.fin.l, Nat.lt_of_lt_of_le h2 hb.size⟩

def countV (l : List PBlk) : Value := .tuple #[.int .i64 l.length, .int .i64 (codeW l), .int .i64 (ifN l)]
set_option maxHeartbeats 2000000 in
set_option maxRecDepth 100000 in
theorem count_any (x : PGr) (vp va vb : Value) (w : World) (h : GrL w vp va vb x) :
    Calls Try.prog 34 #[grV x vp va vb] w (Is (countV x.blocks) w) := by
  obtain ⟨pp, pc, rfl⟩ := h.params.form
  obtain ⟨ap, ac, rfl⟩ := h.arrays.form
  obtain ⟨l, hl⟩ : ∃ l, l = x.blocks := ⟨_, rfl⟩
  have ha := h.blocks
  unfold grV
  rw [← hl] at ha ⊢
  clear h hl
  have HBL := Lib.hid ha
  rcases ha with ⟨h0, bp, bc, rfl⟩ | ⟨g, o, cap, rfl, hn, hcap, hgl, _⟩
  · have : l = [] := List.length_eq_zero_iff.1 h0
    subst this
    go_enter Try.func34, Try.ntmps34
    go_wp2
    go_loopw [5, 6, 12] (fun a b i wr => a = .int .i64 0 ∧ b = .int .i64 0 ∧ i = .int .i64 0 ∧ Below w.heap.size w wr ∧ w.heap.size < wr.heap.size ∧ wr.cell? ⟨w.heap.size, 3, none⟩ = some (.slice bp 0 bc)) (fun _ _ _ _ => 0)
    case atStart => exact ⟨rfl, rfl, rfl, by go_simp; exact below_alloc w _, by go_simp, by go_simp⟩
    case round =>
      obtain ⟨rfl, rfl, rfl, hbw, hsz, hcl⟩ := hrel
      go_wp2
      go_ret3
      exact ⟨rfl, hbw⟩
  · obtain ⟨n, hN⟩ : ∃ n, n = l.length := ⟨_, rfl⟩
    rw [← hN] at hn hcap HBL
    rw [← hN]
    have HN := Lib.hid hN
    obtain ⟨m1, m2⟩ := hcap
    have m3 : n ≤ 9223372036854775807 := by omega
    clear hN
    go_enter Try.func34, Try.ntmps34
    go_wp2
    go_loopw [5, 6, 12] (fun a b i wr => ∃ k : Nat, k ≤ n ∧ a = .int .i64 (codeW (l.take k)) ∧ b = .int .i64 (ifN (l.take k)) ∧ i = .int .i64 k ∧ Below w.heap.size w wr ∧ w.heap.size < wr.heap.size ∧ wr.cell? ⟨w.heap.size, 3, none⟩ = some (.slice (some ⟨g, o, none⟩) n cap)) (fun _ _ i _ => n - (intOf i).toNat)
    case atStart => exact ⟨0, Nat.zero_le _, rfl, rfl, rfl, by go_simp; exact below_alloc w _, by go_simp, by go_simp⟩
    case round =>
      obtain ⟨k, hk, rfl, rfl, rfl, hbw, hsz, hcl⟩ := hrel
      have hp := if_le l k
      by_cases hlt : k < n
      · obtain ⟨t, ht⟩ := getN HN.out hlt
        obtain ⟨pk, ck, qc, cc, pt, ct, ⟨c0, c1, c2, c3, c4, c5, c6, c7, c8, c9⟩, _, _, l0⟩ := blk_at HBL.out hbw ht
        have i0 : (0 : Int) ≤ k := by omega
        have i1 : (k : Int) < n := by omega
        have i2 : (n : Int) ≤ 9223372036854775807 := by omega
        have HA1 := Lib.hid (if_take ht)
        have HA2 := Lib.hid (codeW_take ht)
        have HBW := Lib.hid hbw
        obtain ⟨a, ha⟩ : ∃ a : Int, a = ifN (l.take k) := ⟨_, rfl⟩
        obtain ⟨s, hs⟩ : ∃ s : Int, s = codeW (l.take k) := ⟨_, rfl⟩
        rw [← ha, ← hs]
        have a0 : 0 ≤ a := by omega
        have a1 : a ≤ k := by omega
        have HA := Lib.hid ha
        have HS := Lib.hid hs
        clear hbw ht ha hs hp
        go_wp2
        all_goals exact ⟨⟨k + 1, by omega, by rw [HA2.out, ← HS.out], by rw [HA1.out, ← HA.out]; simp_all, by go_num, HBW.out.alloc HBW.out.size _, lt_alloc hsz, cell_alloc hsz hcl⟩, by simp [intOf]; omega⟩
      · obtain rfl : k = n := by omega
        have HBW := Lib.hid hbw
        clear hbw
        go_wp2
        go_ret3
        exact ⟨by unfold countV; rw [HN.out, List.take_length]; rfl, HBW.out⟩
end Go.Proofs.Ythaombggdchgbaa.Graph
