/- Two answers of the assembler that are the same: the law's Same says so. No condition. -/
import Derived.Test.YtopceggmdieppaaDoorGC
import Derived.Deep.QuietTactic
import Derived.Test.YtopceggmdieppaaDoorKI
import Derived.Test.YtopceggmdieppaaDoorGK
namespace Go.Proofs.YtopceggmdieppaaDoor.Emu.Alike
open Go.RowKit Go.Proofs.YtopceggmdieppaaDoor.Enc Go.Proofs.YtopceggmdieppaaDoor.Graph Go.Proofs.YtopceggmdieppaaDoor.Emu

abbrev imgV (a : Image) (vw vk vp : Value) : Value := .agg #[vw, vk, vp, .int .i64 a.entry]
theorem ints_pt {w : World} {p : Option Addr} {n c : Nat} {l : List Int} (h : IntsR w (.slice p n c) l) {k : Nat} (hk : k < l.length) :
    ∃ b o x, p = some ⟨b, o, none⟩ ∧ l[k]? = some x ∧ b < w.heap.size ∧ w.cell? ⟨b, o + k, none⟩ = some (.int .i64 x) ∧ l.length ≤ c ∧ c ≤ 9223372036854775807 := by
  obtain ⟨b, o, c', h1, h2, h3, h4⟩ := SlR.form2 h (by omega)
  injection h1 with h1 h5 h6
  subst h1 h6
  obtain ⟨x, hx⟩ : ∃ x, l[k]? = some x := ⟨_, List.getElem?_eq_getElem hk⟩
  have := h4 k hk x hx
  rw [Nat.mul_one] at this
  exact ⟨b, o, x, rfl, hx, h3, this, h2.1, h2.2⟩
theorem words_pt {w : World} {p : Option Addr} {n c : Nat} {l : List Int} (h : WordsR w (.slice p n c) l) {k : Nat} (hk : k < l.length) :
    ∃ b o x, p = some ⟨b, o, none⟩ ∧ l[k]? = some x ∧ b < w.heap.size ∧ w.cell? ⟨b, o + k, none⟩ = some (.int .u32 x) ∧ l.length ≤ c ∧ c ≤ 9223372036854775807 := by
  obtain ⟨b, o, c', h1, h2, h3, h4⟩ := SlR.form2 h (by omega)
  injection h1 with h1 h5 h6
  subst h1 h6
  obtain ⟨x, hx⟩ : ∃ x, l[k]? = some x := ⟨_, List.getElem?_eq_getElem hk⟩
  have := h4 k hk x hx
  rw [Nat.mul_one] at this
  exact ⟨b, o, x, rfl, hx, h3, this, h2.1, h2.2⟩
theorem sl_len {w : World} {sz : Nat} {v : Value} {n : Nat} {P : Nat → Nat → Nat → Prop} (h : SlR w sz v n P) : n ≤ 9223372036854775807 := by
  rcases h with ⟨h0, _⟩ | ⟨b, o, c, _, _, h2, _⟩ <;> omega
theorem below_drew {w w' : World} (h : Below w.heap.size w w') (n : Nat) : Below w.heap.size w (w'.drewN n) := h.trans ⟨rfl, rfl, rfl, Nat.le_refl _, fun _ _ => rfl⟩
/-- The two boxes of Same. -/
structure Box2 (w wr : World) (v0 v1 v2 v3 u0 u1 u2 u3 : Value) : Prop where
  b : Below w.heap.size w wr
  sz : w.heap.size + 1 < wr.heap.size
  c0 : wr.cell? ⟨w.heap.size, 0, none⟩ = some v0
  c1 : wr.cell? ⟨w.heap.size, 1, none⟩ = some v1
  c2 : wr.cell? ⟨w.heap.size, 2, none⟩ = some v2
  c3 : wr.cell? ⟨w.heap.size, 3, none⟩ = some v3
  d0 : wr.cell? ⟨w.heap.size + 1, 0, none⟩ = some u0
  d1 : wr.cell? ⟨w.heap.size + 1, 1, none⟩ = some u1
  d2 : wr.cell? ⟨w.heap.size + 1, 2, none⟩ = some u2
  d3 : wr.cell? ⟨w.heap.size + 1, 3, none⟩ = some u3
theorem Box2.start (w : World) (t : TypeId) (v0 v1 v2 v3 u0 u1 u2 u3 : Value) : Box2 w ((w.alloc (.cells #[v0, v1, v2, v3] t)).alloc (.cells #[u0, u1, u2, u3] t)) v0 v1 v2 v3 u0 u1 u2 u3 := by
  refine ⟨(below_one w _).alloc (by simp) _, by simp, ?_, ?_, ?_, ?_, ?_, ?_, ?_, ?_⟩ <;> go_simp
theorem Box2.drew {w wr : World} {v0 v1 v2 v3 u0 u1 u2 u3 : Value} (h : Box2 w wr v0 v1 v2 v3 u0 u1 u2 u3) (n : Nat) : Box2 w (wr.drewN n) v0 v1 v2 v3 u0 u1 u2 u3 :=
  ⟨below_drew h.b n, h.sz, h.c0, h.c1, h.c2, h.c3, h.d0, h.d1, h.d2, h.d3⟩
set_option maxHeartbeats 8000000 in
set_option maxRecDepth 100000 in
theorem same_any (a : Image) (vw vk vp uw uk up : Value) (w : World) (h : ImgR w a vw vk vp) (k : ImgR w a uw uk up) :
    Calls Tryd.prog 23 #[imgV a vw vk vp, imgV a uw uk up] w (Is (.bool true) w) := by
  obtain ⟨pw, cw, rfl⟩ := h.words.form
  obtain ⟨pk, ck, rfl⟩ := h.kinds.form
  obtain ⟨pp, cp, rfl⟩ := h.data.form
  obtain ⟨qw, dw, rfl⟩ := k.words.form
  obtain ⟨qk, dk, rfl⟩ := k.kinds.form
  obtain ⟨qp, dp, rfl⟩ := k.data.form
  have m1 := sl_len h.words
  have m2 := sl_len h.kinds
  have m3 := sl_len h.data
  obtain ⟨words, kinds, data, entry⟩ := a
  simp only at m1 m2 m3
  obtain ⟨nw, hnw⟩ : ∃ n, n = words.length := ⟨_, rfl⟩
  obtain ⟨nk, hnk⟩ : ∃ n, n = kinds.length := ⟨_, rfl⟩
  obtain ⟨np, hnp⟩ : ∃ n, n = data.length := ⟨_, rfl⟩
  unfold imgV
  simp only
  rw [← hnw] at m1
  rw [← hnk] at m2
  rw [← hnp] at m3
  rw [← hnw, ← hnk, ← hnp]
  have HH := Lib.hid h
  have HK := Lib.hid k
  have HNW := Lib.hid hnw
  have HNK := Lib.hid hnk
  have HNP := Lib.hid hnp
  have HB0 := Lib.hid (Box2.start w 48 (.slice pw nw cw) (.slice pk nk ck) (.slice pp np cp) (.int .i64 entry) (.slice qw nw dw) (.slice qk nk dk) (.slice qp np dp) (.int .i64 entry))
  clear h k hnw hnk hnp
  have i1 : (nw : Int) ≤ 9223372036854775807 := by omega
  have i2 : (nk : Int) ≤ 9223372036854775807 := by omega
  have i3 : (np : Int) ≤ 9223372036854775807 := by omega
  go_enter Tryd.func23, Tryd.ntmps23
  go_wp2
  go_loopw [5] (fun i wr => ∃ k : Nat, k ≤ nw ∧ i = .int .i64 k ∧ Hid (Box2 w wr (.slice pw nw cw) (.slice pk nk ck) (.slice pp np cp) (.int .i64 entry) (.slice qw nw dw) (.slice qk nk dk) (.slice qp np dp) (.int .i64 entry))) (fun i _ => nw - (intOf i).toNat)
  case atStart => exact ⟨0, Nat.zero_le _, rfl, HB0⟩
  case round =>
    obtain ⟨k1, hk1, rfl, HB1⟩ := hrel
    obtain ⟨bb, sz, c0, c1, c2, c3, d0, d1, d2, d3⟩ := HB1.out
    have BB := Lib.hid bb
    have z0 : w.heap.size < wr.heap.size := by omega
    clear bb
    by_cases hlt : k1 < nw
    · obtain ⟨b1, o1, x, rfl, hx, hl1, e1, _, _⟩ := words_pt HH.out.words (k := k1) (by have := HNW.out; show k1 < words.length; omega)
      obtain ⟨b2, o2, y, rfl, hy, hl2, e2, _, _⟩ := words_pt HK.out.words (k := k1) (by have := HNW.out; show k1 < words.length; omega)
      obtain rfl : x = y := by rw [hx] at hy; simpa using hy
      have g1 := (BB.out.cell (p := ⟨b1, o1 + k1, none⟩) hl1).trans e1
      have g2 := (BB.out.cell (p := ⟨b2, o2 + k1, none⟩) hl2).trans e2
      have l1 : b1 < wr.heap.size := by omega
      have l2 : b2 < wr.heap.size := by omega
      have i0 : (0 : Int) ≤ k1 := by omega
      have i4 : (k1 : Int) < nw := by omega
      clear hx hy e1 e2
      go_wp2
      go_quiet (fail)
      go_wp2
      exact ⟨⟨k1 + 1, by omega, by go_num, Lib.hid (HB1.out.drew nq)⟩, by simp [intOf]; omega⟩
    · obtain rfl : nw = k1 := by omega
      go_wp2
      go_loopw [6] (fun i wr => ∃ k : Nat, k ≤ nk ∧ i = .int .i64 k ∧ Hid (Box2 w wr (.slice pw nw cw) (.slice pk nk ck) (.slice pp np cp) (.int .i64 entry) (.slice qw nw dw) (.slice qk nk dk) (.slice qp np dp) (.int .i64 entry))) (fun i _ => nk - (intOf i).toNat)
      case atStart => exact ⟨0, Nat.zero_le _, rfl, HB1⟩
      case round =>
        obtain ⟨k2, hk2, rfl, HB2⟩ := hrel
        obtain ⟨bb, sz, c0, c1, c2, c3, d0, d1, d2, d3⟩ := HB2.out
        have BB := Lib.hid bb
        have z0 : w.heap.size < wr.heap.size := by omega
        clear bb
        by_cases hlt : k2 < nk
        · obtain ⟨b1, o1, x, rfl, hx, hl1, e1, _, _⟩ := ints_pt HH.out.kinds (k := k2) (by have := HNK.out; show k2 < kinds.length; omega)
          obtain ⟨b2, o2, y, rfl, hy, hl2, e2, _, _⟩ := ints_pt HK.out.kinds (k := k2) (by have := HNK.out; show k2 < kinds.length; omega)
          obtain rfl : x = y := by rw [hx] at hy; simpa using hy
          have g1 := (BB.out.cell (p := ⟨b1, o1 + k2, none⟩) hl1).trans e1
          have g2 := (BB.out.cell (p := ⟨b2, o2 + k2, none⟩) hl2).trans e2
          have l1 : b1 < wr.heap.size := by omega
          have l2 : b2 < wr.heap.size := by omega
          have i0 : (0 : Int) ≤ k2 := by omega
          have i4 : (k2 : Int) < nk := by omega
          clear hx hy e1 e2
          go_wp2
          go_quiet (fail)
          go_wp2
          exact ⟨⟨k2 + 1, by omega, by go_num, Lib.hid (HB2.out.drew nq)⟩, by simp [intOf]; omega⟩
        · obtain rfl : nk = k2 := by omega
          go_wp2
          go_loopw [7] (fun i wr => ∃ k : Nat, k ≤ np ∧ i = .int .i64 k ∧ Hid (Box2 w wr (.slice pw nw cw) (.slice pk nk ck) (.slice pp np cp) (.int .i64 entry) (.slice qw nw dw) (.slice qk nk dk) (.slice qp np dp) (.int .i64 entry))) (fun i _ => np - (intOf i).toNat)
          case atStart => exact ⟨0, Nat.zero_le _, rfl, HB2⟩
          case round =>
            obtain ⟨k3, hk3, rfl, HB3⟩ := hrel
            obtain ⟨bb, sz, c0, c1, c2, c3, d0, d1, d2, d3⟩ := HB3.out
            have BB := Lib.hid bb
            have z0 : w.heap.size < wr.heap.size := by omega
            clear bb
            by_cases hlt : k3 < np
            · obtain ⟨b1, o1, x, rfl, hx, hl1, e1, _, _⟩ := words_pt HH.out.data (k := k3) (by have := HNP.out; show k3 < data.length; omega)
              obtain ⟨b2, o2, y, rfl, hy, hl2, e2, _, _⟩ := words_pt HK.out.data (k := k3) (by have := HNP.out; show k3 < data.length; omega)
              obtain rfl : x = y := by rw [hx] at hy; simpa using hy
              have g1 := (BB.out.cell (p := ⟨b1, o1 + k3, none⟩) hl1).trans e1
              have g2 := (BB.out.cell (p := ⟨b2, o2 + k3, none⟩) hl2).trans e2
              have l1 : b1 < wr.heap.size := by omega
              have l2 : b2 < wr.heap.size := by omega
              have i0 : (0 : Int) ≤ k3 := by omega
              have i4 : (k3 : Int) < np := by omega
              clear hx hy e1 e2
              go_wp2
              go_quiet (fail)
              go_wp2
              exact ⟨⟨k3 + 1, by omega, by go_num, Lib.hid (HB3.out.drew nq)⟩, by simp [intOf]; omega⟩
            · obtain rfl : np = k3 := by omega
              go_wp2
              go_ret
              exact ⟨rfl, BB.out⟩
end Go.Proofs.YtopceggmdieppaaDoor.Emu.Alike
namespace Go.Proofs.YtopceggmdieppaaDoor.Emu
open Go.RowKit Go.Proofs.YtopceggmdieppaaDoor.Enc Go.Proofs.YtopceggmdieppaaDoor.Graph

/-- The fuel that the law takes. -/
theorem fuel_of (fuel : Int) (hf : inR fuel) : ∃ fu : Int, inR fu ∧ ((30000 < fuel ∧ fuel ≤ 1073741824 ∧ fu = fuel % 30000) ∨ (¬ (30000 < fuel ∧ fuel ≤ 1073741824) ∧ fu = fuel)) := by
  unfold inR at *
  by_cases h : 30000 < fuel ∧ fuel ≤ 1073741824
  · exact ⟨fuel % 30000, by omega, .inl ⟨h.1, h.2, rfl⟩⟩
  · exact ⟨fuel, hf, .inr ⟨h, rfl⟩⟩
/-- The document's Run. -/
theorem rrun_any (m : Image) (vw vk vd : Value) (input : List UInt8) (fuel : Int) (w : World) (h : ImgR w m vw vk vd) (hsm : SmI m) (hf : inR fuel) :
    Calls Tryd.prog 21 #[.agg #[vw, vk, vd, .int .i64 m.entry], .string ⟨input.toArray⟩, .int .i64 fuel] w fun e w' =>
      e = .returned (.tuple #[outV (runP ar hs m input fuel).1, .int .i64 (runP ar hs m input fuel).2]) ∧ Below w.heap.size w w' := by
  by_cases hb : mayI m = true ∧ input.length ≤ 10000 ∧ 0 ≤ fuel ∧ fuel ≤ 1073741824
  · obtain ⟨h1, h2, h3, h4⟩ := hb
    obtain ⟨f, rfl⟩ := Int.eq_ofNat_of_zero_le h3
    exact rrun_yes m vw vk vd input f w h hsm h1 h2 h4
  · exact rrun_no m vw vk vd input fuel w h hsm hf hb
set_option maxHeartbeats 16000000 in
set_option maxRecDepth 100000 in
theorem runs_any (m : Image) (vw vk vd : Value) (input : List UInt8) (fuel : Int) (w : World) (h : ImgR w m vw vk vd) (hm : SmI m) (hf : inR fuel) (hF : FormsAt w) :
    Calls Tryd.prog 6 #[.agg #[vw, vk, vd, .int .i64 m.entry], .string ⟨input.toArray⟩, .int .i64 fuel] w (Is (.bool true) w) := by
  have HL := Lib.hid (fun w hF => live_any does w hF)
  have HCP := Lib.hid (fun (wx : World) (hx : Below w.heap.size w wx) => copy_any m vw vk vd wx (h.below hx) hm)
  obtain ⟨fu, hfu, hcase⟩ := fuel_of fuel hf
  obtain ⟨o, er, ho⟩ : ∃ o er, runP ar hs m input fu = (o, er) := ⟨_, _, rfl⟩
  have HA := Lib.hid (fun (wx : World) (vw vk vd : Value) (hi : ImgR wx m vw vk vd) (hF : FormsAt wx) => does.at_ ho wx hi hm hfu hF)
  have HR := Lib.hid (fun (wx : World) (hx : Below w.heap.size w wx) => (rrun_any m vw vk vd input fu wx (h.below hx) hm hfu).mono (R' := fun e w' => e = .returned (.tuple #[.agg #[.int .i64 o.stop, .int .u32 o.code, .string ⟨o.bytes.toArray⟩, .int .i64 (o.steps : Int)], .int .i64 er]) ∧ Below wx.heap.size wx w') (fun e w' ⟨h1, h2⟩ => ⟨by rw [h1, ho], h2⟩))
  have HSM := Lib.hid (fun (wx : World) (hx : Below w.heap.size w wx) (uw uk ud : Value) (hi : ImgR wx m uw uk ud) => Alike.same_any m uw uk ud vw vk vd wx hi (h.below hx))
  unfold Alike.imgV at HSM
  obtain ⟨pw, cw, rfl⟩ := h.words.form
  obtain ⟨pk, ck, rfl⟩ := h.kinds.form
  obtain ⟨pd, cd, rfl⟩ := h.data.form
  clear ho h hm hf hfu
  obtain ⟨words, kinds, data, entry⟩ := m
  obtain ⟨os, oc, obs, ot⟩ := o
  simp only at HA HCP HR HSM ⊢
  obtain ⟨nw, hnw⟩ : ∃ n, n = words.length := ⟨_, rfl⟩
  obtain ⟨nk, hnk⟩ : ∃ n, n = kinds.length := ⟨_, rfl⟩
  obtain ⟨nd, hnd⟩ : ∃ n, n = data.length := ⟨_, rfl⟩
  have HNW := Lib.hid hnw
  have HNK := Lib.hid hnk
  have HND := Lib.hid hnd
  rw [← hnw] at HCP HR HSM ⊢
  rw [← hnk] at HCP HR HSM ⊢
  rw [← hnd] at HCP HR HSM ⊢
  generalize (⟨obs.toArray⟩ : ByteArray) = ob at HA HR
  generalize ((ot : Nat) : Int) = ot at HA HR
  generalize (⟨input.toArray⟩ : ByteArray) = inp at HA HR ⊢
  clear hnw hnk hnd
  go_enter Tryd.func6, Tryd.ntmps6
  obtain ⟨q, hq⟩ : ∃ q : Bool, q = decide (30000 < fuel) := ⟨_, rfl⟩
  have hthree : (30000 < fuel ∧ fuel ≤ 1073741824 ∧ fu = fuel % 30000) ∨ (30000 < fuel ∧ ¬ fuel ≤ 1073741824 ∧ fu = fuel) ∨ (¬ 30000 < fuel ∧ fu = fuel) := by
    rcases hcase with h | ⟨h1, h2⟩
    · exact .inl h
    · by_cases h3 : 30000 < fuel
      · exact .inr (.inl ⟨h3, fun h => h1 ⟨h3, h⟩, h2⟩)
      · exact .inr (.inr ⟨h3, h2⟩)
  clear hcase hq q
  rcases hthree with ⟨g1, g2, g3⟩ | ⟨g1, g2, g3⟩ | ⟨g1, g3⟩
  all_goals
    go_upto_region 3 with (fail)
    rw [← g3]
    clear g3
    (try clear g2)
    clear g1
    go_upto_region 4 with (
       go_at_call 19; refine (HCP.out _ (below_one w _)).mono ?_; rintro e w3 ⟨v4, v5, v6, rfl, ho3, hb3⟩
       have h4 : ∃ p c, v4 = .slice p nw c ∧ nw ≤ c := by rw [HNW.out]; exact own_form ho3.words
       have h5 : ∃ p c, v5 = .slice p nk c ∧ nk ≤ c := by rw [HNK.out]; exact own_form ho3.kinds
       have h6 : ∃ p c, v6 = .slice p nd c ∧ nd ≤ c := by rw [HND.out]; exact own_form ho3.data
       obtain ⟨p4, c4, rfl, _⟩ := h4
       obtain ⟨p5, c5, rfl, _⟩ := h5
       obtain ⟨p6, c6, rfl, _⟩ := h6
       have HO3 := Lib.hid ho3
       have HB3 := Lib.hid hb3
       clear ho3 hb3)
    have HX4 : Hid ((w3.alloc (.cells #[.slice p4 nw c4, .slice p5 nk c5, .slice p6 nd c6, .int .i64 entry] 48)).heap[w.heap.size]? = some (.cells #[.slice pw nw cw, .slice pk nk ck, .slice pd nd cd, .int .i64 entry] 48 (0, 0))) := Lib.hid ((heap_alloc_old _ _ (by have := HB3.out.size; simp at this; omega)).trans ((HB3.out.block w.heap.size (by simp)).trans (heap_alloc_new w _)))
    have HI4 : Hid ((w3.alloc (.cells #[.slice p4 nw c4, .slice p5 nk c5, .slice p6 nd c6, .int .i64 entry] 48)).heap[w3.heap.size]? = some (.cells #[.slice p4 nw c4, .slice p5 nk c5, .slice p6 nd c6, .int .i64 entry] 48 (0, 0))) := Lib.hid (heap_alloc_new w3 _)
    have HO4 := Lib.hid (HO3.out.img.below (below_one w3 (.cells #[.slice p4 nw c4, .slice p5 nk c5, .slice p6 nd c6, .int .i64 entry] 48)))
    have HB4 : Hid (Below w.heap.size w (w3.alloc (.cells #[.slice p4 nw c4, .slice p5 nk c5, .slice p6 nd c6, .int .i64 entry] 48))) := Lib.hid (bt (below_one w _) (bt HB3.out (below_one w3 _)))
    obtain ⟨bi, hbi⟩ : ∃ bi, bi = w3.heap.size := ⟨_, rfl⟩
    rw [← hbi] at HI4 ⊢
    clear hbi HO3 HB3 HCP
    generalize (w3.alloc (.cells #[.slice p4 nw c4, .slice p5 nk c5, .slice p6 nd c6, .int .i64 entry] 48)) = x4 at HX4 HI4 HO4 HB4 ⊢
    have kf4 := hF.below HB4.out
    obtain ⟨i0, i1, i2, i3, _, _, _, _, il⟩ := box4 HI4.out
    obtain ⟨j0, j1, j2, j3, _, _, _, _, jl⟩ := box4 HX4.out
    go_upto_region 5 with (go_at_call 20; refine (HA.out _ _ _ _ HO4.out kf4).mono ?_; rintro e w5 ⟨rfl, hb5⟩; have H5 := Lib.hid hb5; clear hb5)
    have HB5 := Lib.hid (bt H5.out (below_one w5 (.cells #[.int .i64 os, .int .u32 oc, .string ob, .int .i64 ot] 51)))
    have HO5 : Hid ((w5.alloc (.cells #[.int .i64 os, .int .u32 oc, .string ob, .int .i64 ot] 51)).heap[w5.heap.size]? = some (.cells #[.int .i64 os, .int .u32 oc, .string ob, .int .i64 ot] 51 (0, 0))) := Lib.hid (heap_alloc_new w5 _)
    obtain ⟨ba, hba⟩ : ∃ ba, ba = w5.heap.size := ⟨_, rfl⟩
    rw [← hba] at HO5 ⊢
    clear hba H5 i0 i1 i2 i3 j0 j1 j2 j3
    generalize (w5.alloc (.cells #[.int .i64 os, .int .u32 oc, .string ob, .int .i64 ot] 51)) = x5 at HB5 HO5 ⊢
    have HI5 := Lib.hid ((HB5.out.block bi il).trans HI4.out)
    have HX5 := Lib.hid ((HB5.out.block w.heap.size jl).trans HX4.out)
    have kf5 := kf4.below HB5.out
    obtain ⟨i0, i1, i2, i3, _, _, _, _, il5⟩ := box4 HI5.out
    obtain ⟨j0, j1, j2, j3, _, _, _, _, jl5⟩ := box4 HX5.out
    go_upto_region 6 with (go_at_call 20; refine (HA.out _ _ _ _ (HO4.out.below HB5.out) kf5).mono ?_; rintro e w6 ⟨rfl, hb6⟩; have H6 := Lib.hid hb6; clear hb6)
    have HB6 := Lib.hid (bt H6.out (below_one w6 (.cells #[.int .i64 os, .int .u32 oc, .string ob, .int .i64 ot] 51)))
    have HP6 : Hid ((w6.alloc (.cells #[.int .i64 os, .int .u32 oc, .string ob, .int .i64 ot] 51)).heap[w6.heap.size]? = some (.cells #[.int .i64 os, .int .u32 oc, .string ob, .int .i64 ot] 51 (0, 0))) := Lib.hid (heap_alloc_new w6 _)
    obtain ⟨bb, hbb⟩ : ∃ bb, bb = w6.heap.size := ⟨_, rfl⟩
    rw [← hbb] at HP6 ⊢
    clear hbb H6 i0 i1 i2 i3 j0 j1 j2 j3
    generalize (w6.alloc (.cells #[.int .i64 os, .int .u32 oc, .string ob, .int .i64 ot] 51)) = x6 at HB6 HP6 ⊢
    have HB46 := Lib.hid (bt HB5.out HB6.out)
    have HI6 := Lib.hid ((HB46.out.block bi il).trans HI4.out)
    have HX6 := Lib.hid ((HB46.out.block w.heap.size jl).trans HX4.out)
    have HO6 := Lib.hid ((HB6.out.block ba (lt_of_block HO5.out)).trans HO5.out)
    have hB6 := bt HB4.out HB46.out
    have HBW6 := Lib.hid hB6
    have kf6 := hF.below hB6
    clear hB6
    obtain ⟨j0, j1, j2, j3, _, _, _, _, jl6⟩ := box4 HX6.out
    go_upto_region 7 with (go_at_call 21; refine (HR.out _ HBW6.out).mono ?_; rintro e w7 ⟨rfl, hb7⟩; have H7 := Lib.hid hb7; clear hb7)
    have HB7 := Lib.hid (bt H7.out (below_one w7 (.cells #[.int .i64 os, .int .u32 oc, .string ob, .int .i64 ot] 51)))
    have HQ7 : Hid ((w7.alloc (.cells #[.int .i64 os, .int .u32 oc, .string ob, .int .i64 ot] 51)).heap[w7.heap.size]? = some (.cells #[.int .i64 os, .int .u32 oc, .string ob, .int .i64 ot] 51 (0, 0))) := Lib.hid (heap_alloc_new w7 _)
    obtain ⟨bc, hbc⟩ : ∃ bc, bc = w7.heap.size := ⟨_, rfl⟩
    rw [← hbc] at HQ7 ⊢
    clear hbc H7 j0 j1 j2 j3
    generalize (w7.alloc (.cells #[.int .i64 os, .int .u32 oc, .string ob, .int .i64 ot] 51)) = x7 at HB7 HQ7 ⊢
    have kf7 := kf6.below HB7.out
    have HB47 := Lib.hid (bt HB46.out HB7.out)
    go_wp2_with (first
      | (
         go_at_call 22; refine (HL.out _ kf7).mono ?_; rintro e w8 ⟨rfl, hb8⟩
         have H8 := Lib.hid (bt HB47.out hb8)
         obtain ⟨i0, i1, i2, i3, _, _, _, _, _⟩ := box4 ((H8.out.block bi il).trans HI4.out)
         obtain ⟨j0, j1, j2, j3, _, _, _, _, _⟩ := box4 ((H8.out.block w.heap.size jl).trans HX4.out)
         obtain ⟨a0, a1, a2, a3, _, _, _, _, _⟩ := box4 ((hb8.block ba (Nat.lt_of_lt_of_le (lt_of_block HO6.out) HB7.out.size)).trans ((HB7.out.block ba (lt_of_block HO6.out)).trans HO6.out))
         obtain ⟨b0, b1, b2, b3, _, _, _, _, _⟩ := box4 ((hb8.block bb (Nat.lt_of_lt_of_le (lt_of_block HP6.out) HB7.out.size)).trans ((HB7.out.block bb (lt_of_block HP6.out)).trans HP6.out))
         obtain ⟨c0, c1, c2, c3, _, _, _, _, _⟩ := box4 ((hb8.block bc (lt_of_block HQ7.out)).trans HQ7.out)
         clear hb8)
      | (go_at_call 23; refine (HSM.out _ (bt HB4.out H8.out) _ _ _ (HO4.out.below H8.out)).mono ?_; rintro e w9 ⟨rfl, hb9⟩; have H9 := Lib.hid hb9; clear hb9))
    go_ret
    exact ⟨by simp, bt (bt HB4.out H8.out) H9.out⟩
end Go.Proofs.YtopceggmdieppaaDoor.Emu
