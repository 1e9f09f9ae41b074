/- Is the branch at a line long, by the answer: the law's long. No condition but that the program's Decode does what the plain one does. -/
import Derived.Test.YtmnhafncdblklaaDoorRx1
import Derived.Test.YtmnhafncdblklaaDoorQh
import Derived.Deep.RegionHeld3
namespace Go.Proofs.YtmnhafncdblklaaDoor.Relax
open Go.RowKit Go.Proofs.YtmnhafncdblklaaDoor.Enc Go.Proofs.YtmnhafncdblklaaDoor.Graph

/-- The first word of a branch, read back. -/
theorem branch_code {l : List PL} {a : Asm} {line : Int} (h : asmP l = (a, line, 0)) {i : Nat} (hi : i < l.length) (hb : isBr (lineAt l i) = true) :
    ∃ y c, a.words[placeP l (longP l).1 i]? = some y ∧ a.kinds[placeP l (longP l).1 i]? = some 1 ∧ (0 ≤ y ∧ y ≤ 4294967295) ∧ decP y = (c, 0) ∧ (c.op != (lineAt l i).op) = longAt (longP l).1 i := by
  cases hs : longAt (longP l).1 i with
  | false =>
    obtain ⟨y, imm, h1, h2, h3, h4⟩ := short_code h hi hb hs
    exact ⟨y, _, h1, h2, h3, h4, by simp⟩
  | true =>
    obtain ⟨y, c, h1, h2, h3, h4, h5⟩ := long_code h hi hb hs
    exact ⟨y, c, h1, h2, h3, h4, by simpa using h5⟩
set_option maxHeartbeats 8000000 in
set_option maxRecDepth 100000 in
theorem long_any (D : DoesDec) (l : List PL) (a : Asm) (line : Int) (v vw vk vp : Value) (w : World) (h : LinesR w v l) (ha : AsmR w a vw vk vp) (hF : FormsAt w) (he : asmP l = (a, line, 0)) (i : Nat) (hi : i < l.length) (hb : isBr (lineAt l i) = true) :
    Calls Tryd.prog 26 #[v, asmV a vw vk vp, .int .i64 i] w (Is (.bool (longAt (longP l).1 i)) w) := by
  obtain ⟨y, c, hx1, hk1, hr, hd, hq⟩ := branch_code he hi hb
  obtain ⟨hp1, hp2⟩ := asm_places he
  have hpl := hp2 i hi
  obtain ⟨t, hT⟩ : ∃ t, t = placeP l (longP l).1 i := ⟨_, rfl⟩
  rw [← hT] at hx1 hk1 hpl
  have HC := Lib.hid (fun (wx : World) (hb : Below w.heap.size w wx) => code_any D a _ _ _ wx (ha.below hb) (hF.below hb) t y _ hx1 hk1 hr hd)
  obtain ⟨q, hQ⟩ : ∃ q, q = longAt (longP l).1 i := ⟨_, rfl⟩
  rw [← hQ] at hq ⊢
  rcases h with ⟨hz, ap, ac, rfl⟩ | ⟨g, o, cap, rfl, hn, hcap, hgl, hc⟩
  · omega
  obtain ⟨pw, cw, rfl⟩ := ha.words.form
  obtain ⟨pk, ck, rfl⟩ := ha.kinds.form
  obtain ⟨pp, cp, rfl⟩ := ha.places.form
  obtain ⟨b1, o1, t', rfl, ht', hl1, e1, hcp, _⟩ := ints_pt ha.places (k := i) (by omega)
  obtain rfl : (t : Int) = t' := by rw [hpl] at ht'; simpa using ht'
  obtain ⟨x, hx⟩ := getN (n := l.length) rfl hi
  obtain ⟨vl, hL⟩ := hc i hi x hx
  rw [lineAt_of hx] at hq
  obtain ⟨q0, _, _, _, _, _, _, _⟩ := hL
  unfold asmV at HC ⊢
  rw [hp1] at HC ⊢
  have m4 := sl_len ha.places
  obtain ⟨n, hN⟩ : ∃ n, n = l.length := ⟨_, rfl⟩
  obtain ⟨nw, hnw⟩ : ∃ n, n = a.words.length := ⟨_, rfl⟩
  obtain ⟨nk, hnk⟩ : ∃ n, n = a.kinds.length := ⟨_, rfl⟩
  obtain ⟨rd, hrd⟩ : ∃ r, r = a.rounds := ⟨_, rfl⟩
  rw [hp1] at hcp
  rw [← hN] at hcap hi hcp
  rw [← hN, ← hnw, ← hnk, ← hrd] at HC ⊢
  obtain ⟨xop, xa, xb, ximm, xn, xlabel, xlist⟩ := x
  obtain ⟨cop, ca, cb, cimm⟩ := c
  simp only at q0 hq
  have j1 : (i : Int) < n := by omega
  have j2 : (0 : Int) ≤ i := by omega
  have j3 : (n : Int) ≤ 9223372036854775807 := by omega
  have l0 : b1 ≠ w.heap.size := by omega
  have l4 : w.heap.size + 1 ≠ g := by omega
  have l5 : w.heap.size ≠ g := by omega
  have j4 : (n : Int) ≤ cap := by omega
  have l1 : w.heap.size + 1 ≠ b1 := by omega
  have l3 : w.heap.size ≠ b1 := by omega
  have l2 : g ≠ w.heap.size := by omega
  clear hx1 hk1 hr hd hpl ht' ha hF D hT hQ hp1 hp2 hc hx hb hn hN hnw hnk hrd he
  go_enter Tryd.func26, Tryd.ntmps26
  go_wp2
  go_region_held3 (fun w' => w'.cell? ⟨w.heap.size, 0, none⟩ = some (.slice pw nw cw) ∧ w'.cell? ⟨w.heap.size, 1, none⟩ = some (.slice pk nk ck) ∧ w'.cell? ⟨w.heap.size, 2, none⟩ = some (.slice (some ⟨b1, o1, none⟩) n cp) ∧ w'.cell? ⟨w.heap.size, 3, none⟩ = some (.int .i64 rd) ∧ w'.cell? ⟨b1, o1 + i, none⟩ = some (.int .i64 (t : Int))) (go_keep)
    (first
      | (go_at_call 22; refine (HC.out _ (((below_one w _).drew).alloc (by simp) _)).mono ?_; rintro e w2 ⟨rfl, hb2⟩; have H2 := Lib.hid hb2; have c0 := hb2.cell (p := ⟨w.heap.size, 0, none⟩) (by first | (simp; done) | (simp; omega) | omega); have c1 := hb2.cell (p := ⟨w.heap.size, 1, none⟩) (by first | (simp; done) | (simp; omega) | omega); have c2 := hb2.cell (p := ⟨w.heap.size, 2, none⟩) (by first | (simp; done) | (simp; omega) | omega); have c3 := hb2.cell (p := ⟨w.heap.size, 3, none⟩) (by first | (simp; done) | (simp; omega) | omega); have c5 := hb2.cell (p := ⟨g, o + i * 7, none⟩) (by first | (simp; done) | (simp; omega) | omega); have c4 := hb2.cell (p := ⟨b1, o1 + i, none⟩) (by first | (simp; done) | (simp; omega) | omega); have n0 := hb2.cell (p := ⟨w.heap.size + 1, 0, none⟩) (by first | (simp; done) | (simp; omega) | omega); have z0 := hb2.frozen (p := ⟨w.heap.size + 1, 0, none⟩) (by first | (simp; done) | (simp; omega) | omega); have n1 := hb2.cell (p := ⟨w.heap.size + 1, 1, none⟩) (by first | (simp; done) | (simp; omega) | omega); have z1 := hb2.frozen (p := ⟨w.heap.size + 1, 1, none⟩) (by first | (simp; done) | (simp; omega) | omega); have n2 := hb2.cell (p := ⟨w.heap.size + 1, 2, none⟩) (by first | (simp; done) | (simp; omega) | omega); have z2 := hb2.frozen (p := ⟨w.heap.size + 1, 2, none⟩) (by first | (simp; done) | (simp; omega) | omega); have n3 := hb2.cell (p := ⟨w.heap.size + 1, 3, none⟩) (by first | (simp; done) | (simp; omega) | omega); have z3 := hb2.frozen (p := ⟨w.heap.size + 1, 3, none⟩) (by first | (simp; done) | (simp; omega) | omega); have sz2 : w.heap.size + 1 < w2.heap.size := Nat.lt_of_lt_of_le (by simp) hb2.size; have sy2 : w.heap.size < w2.heap.size := (by omega); have sv2 : g < w2.heap.size := (by omega); clear hb2)
      | (go_at_call 22; refine (HC.out _ ((below_one w _).drew)).mono ?_; rintro e w2 ⟨rfl, hb2⟩; have H2 := Lib.hid hb2; have c0 := hb2.cell (p := ⟨w.heap.size, 0, none⟩) (by first | (simp; done) | (simp; omega) | omega); have c1 := hb2.cell (p := ⟨w.heap.size, 1, none⟩) (by first | (simp; done) | (simp; omega) | omega); have c2 := hb2.cell (p := ⟨w.heap.size, 2, none⟩) (by first | (simp; done) | (simp; omega) | omega); have c3 := hb2.cell (p := ⟨w.heap.size, 3, none⟩) (by first | (simp; done) | (simp; omega) | omega); have c5 := hb2.cell (p := ⟨g, o + i * 7, none⟩) (by first | (simp; done) | (simp; omega) | omega); have c4 := hb2.cell (p := ⟨b1, o1 + i, none⟩) (by first | (simp; done) | (simp; omega) | omega); have sy2 : w.heap.size < w2.heap.size := Nat.lt_of_lt_of_le (by simp) hb2.size; have sx2 : w2.heap.size ≠ w.heap.size := (by omega); have sw2 : w2.heap.size ≠ b1 := (by omega); have sv2 : g < w2.heap.size := (by omega); clear hb2))
  · go_wp2
    go_quiet (fail)
    go_wp2
    go_ret
    exact ⟨by rw [← hq]; rfl, below_drew ((bt ((below_one w _).drew) H2.out).alloc (by omega) _) _⟩
  · go_wp2
    go_quiet (fail)
    go_wp2
    go_ret
    exact ⟨by rw [← hq]; rfl, below_drew ((((((bt (((below_one w _).drew).alloc (by simp) _) H2.out).setCell (Nat.le_succ _) _).setCell (Nat.le_succ _) _).setCell (Nat.le_succ _) _).setCell (Nat.le_succ _) _)) _⟩
end Go.Proofs.YtmnhafncdblklaaDoor.Relax
