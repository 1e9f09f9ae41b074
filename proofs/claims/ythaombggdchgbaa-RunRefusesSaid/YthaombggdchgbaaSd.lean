/- The module of run's 'live': Check at it. -/
import Derived.Test.YthaombggdchgbaaSa
namespace Go.Proofs.Ythaombggdchgbaa.Graph
open Go.RowKit

set_option maxHeartbeats 4000000 in
set_option maxRecDepth 100000 in
theorem blocks_live (cb : Nat) (vp va vb : Value) (w : World) (h : GrL w vp va vb liveG) :
    Calls Try.prog 17 #[.pointer (some ⟨cb, 0, none⟩), grV liveG vp va vb] w (Is (.tuple #[.int .i64 (-1), .int .i64 0]) w) := by
  obtain ⟨pp, pc, rfl⟩ := h.params.form
  obtain ⟨ap, ac, rfl⟩ := h.arrays.form
  have hB := h.blocks
  obtain ⟨g, o, bc, rfl, ⟨k0, k1⟩, hg, _⟩ := SlR.form2 hB (by simp)
  have HB := Lib.hid (fun (wr : World) (hw : Below w.heap.size w wr) => first_blk hB hw)
  have HE := Lib.hid (fun (b : Nat) (vc vt : Value) (wr : World) => end_jump cb pp ap (some ⟨g, o, none⟩) 0 0 pc ac bc b (o + 1) vc vt wr)
  unfold grV
  clear h hB
  go_enter Try.func17, Try.ntmps17
  go_wp2
  go_loopw [12] (fun i wr => (i = .int .i64 0 ∨ i = .int .i64 1) ∧ Below w.heap.size w wr ∧ Box4 wr w.heap.size (.slice pp 0 pc) (.int .i64 1) (.slice ap 0 ac) (.slice (some ⟨g, o, none⟩) 1 bc)) (fun i _ => 1 - (intOf i).toNat)
  case atStart => exact ⟨.inl rfl, by go_simp; exact below_alloc w _, by go_simp, by go_simp, by go_simp, by go_simp, by go_simp⟩
  case round =>
    obtain ⟨wo, rfl⟩ : ∃ wo, wo = wr := ⟨_, rfl⟩
    obtain ⟨hi, hbw, hbox⟩ := hrel
    have HBW := Lib.hid hbw
    have HBX := Lib.hid hbox
    obtain ⟨z0, z1, z2, z3, z4⟩ := hbox
    rcases hi with rfl | rfl
    · obtain ⟨pk, ck, vc, vt, c0, hcode, he, l0⟩ := HB.out wo hbw
      obtain ⟨gc, oc, cc, hv, ⟨j0, j1⟩, hgc, hci⟩ := SlR.form2 hcode (by simp)
      injection hv with hv1 hv2 hv3
      subst hv1 hv3
      have HI : Hid (∀ (j : Nat), j < 2 → ∀ wx, Below wo.heap.size wo wx → Calls Try.prog 35 #[.pointer (some ⟨cb, 0, none⟩), g1V pp ap (some ⟨g, o, none⟩) 0 0 1 pc ac bc, .pointer (some ⟨gc, oc + j * 8, none⟩)] wx (Is (.int .i64 0) wx)) := Lib.hid (fun j hj wx hx => by
        match j, hj with
        | 0, _ =>
          obtain ⟨va, vr, h1⟩ := hci 0 (by simp) (liveI 30) rfl
          exact ins_live 30 2 (.inl ⟨rfl, rfl⟩) cb pp ap (some ⟨g, o, none⟩) 0 0 1 pc ac bc gc (oc + 0 * 8) va vr wx (h1.below hgc hx) (Nat.lt_of_lt_of_le hgc hx.size)
        | 1, _ =>
          obtain ⟨va, vr, h1⟩ := hci 1 (by simp) (liveI 31) rfl
          exact ins_live 31 4 (.inr ⟨rfl, rfl⟩) cb pp ap (some ⟨g, o, none⟩) 0 0 1 pc ac bc gc (oc + 1 * 8) va vr wx (h1.below hgc hx) (Nat.lt_of_lt_of_le hgc hx.size))
      have HE0 := Lib.hid he
      have HC0 := Lib.hid (And.intro c0 l0)
      clear hbw hcode hci hv2 he
      go_wp2
      go_loopw [22] (fun i wq => (i = .int .i64 0 ∨ i = .int .i64 1 ∨ i = .int .i64 2) ∧ Below wo.heap.size wo wq) (fun i _ => 2 - (intOf i).toNat)
      case atStart => exact ⟨.inl rfl, Below.refl _ _⟩
      case round =>
        obtain ⟨hi, hbq⟩ := hrel
        have HBQ := Lib.hid hbq
        have HBX2 := Lib.hid (HBX.out.below hbq)
        have c0' : wr.cell? ⟨g, o, none⟩ = some (.slice (some ⟨gc, oc, none⟩) 2 ck) := (hbq.cell (p := ⟨g, o, none⟩) HC0.out.2).trans HC0.out.1
        have l0' : g < wr.heap.size := Nat.lt_of_lt_of_le HC0.out.2 hbq.size
        obtain ⟨y0, y1, y2, y3, y4⟩ := HBX2.out
        clear z0 z1 z2 z3 z4 c0 l0 hbq
        rcases hi with rfl | rfl | rfl
        · go_wp2
          have HIJ := Lib.hid (HI.out 0 (by omega))
          rw [show oc + 0 * 8 = oc by omega] at HIJ
          go_region_held3 (fun w' => w'.cell? ⟨w.heap.size, 0, none⟩ = some (.slice pp 0 pc) ∧ w'.cell? ⟨w.heap.size, 1, none⟩ = some (.int .i64 1) ∧ w'.cell? ⟨w.heap.size, 2, none⟩ = some (.slice ap 0 ac) ∧ w'.cell? ⟨w.heap.size, 3, none⟩ = some (.slice (some ⟨g, o, none⟩) 1 bc) ∧ w'.cell? ⟨g, o, none⟩ = some (.slice (some ⟨gc, oc, none⟩) 2 ck))
            (first
              | go_keep
              | (refine ⟨?_, ?_, ?_, ?_, ?_⟩ <;> (first | (rw [hb3.cell y0]; first | exact y1 | exact y2 | exact y3 | exact y4) | (rw [hb3.cell l0']; exact c0'))))
            ((go_at_call 35; refine (HIJ.out _ HBQ.out.drew).mono ?_; rintro e w3 ⟨rfl, hb3⟩))
          all_goals
            have H3 := Lib.hid (HBQ.out.drew.trans (hb3.mono HBQ.out.size))
            clear hb3
            go_wp2
            exact ⟨⟨.inr (.inl rfl), H3.out⟩, by simp [intOf]⟩
        · go_wp2
          have HIJ := Lib.hid (HI.out 1 (by omega))
          rw [show oc + 1 * 8 = oc + 8 by omega] at HIJ
          go_region_held3 (fun w' => w'.cell? ⟨w.heap.size, 0, none⟩ = some (.slice pp 0 pc) ∧ w'.cell? ⟨w.heap.size, 1, none⟩ = some (.int .i64 1) ∧ w'.cell? ⟨w.heap.size, 2, none⟩ = some (.slice ap 0 ac) ∧ w'.cell? ⟨w.heap.size, 3, none⟩ = some (.slice (some ⟨g, o, none⟩) 1 bc) ∧ w'.cell? ⟨g, o, none⟩ = some (.slice (some ⟨gc, oc, none⟩) 2 ck))
            (first
              | go_keep
              | (refine ⟨?_, ?_, ?_, ?_, ?_⟩ <;> (first | (rw [hb3.cell y0]; first | exact y1 | exact y2 | exact y3 | exact y4) | (rw [hb3.cell l0']; exact c0'))))
            ((go_at_call 35; refine (HIJ.out _ HBQ.out.drew).mono ?_; rintro e w3 ⟨rfl, hb3⟩))
          all_goals
            have H3 := Lib.hid (HBQ.out.drew.trans (hb3.mono HBQ.out.size))
            clear hb3
            go_wp2
            exact ⟨⟨.inr (.inr rfl), H3.out⟩, by simp [intOf]⟩
        · go_wp2
          have HW := Lib.hid (HBW.out.trans (HBQ.out.mono HBW.out.size))
          have HEW : Hid (∀ wx, Below w.heap.size w wx → Calls Try.prog 36 #[.pointer (some ⟨cb, 0, none⟩), g1V pp ap (some ⟨g, o, none⟩) 0 0 1 pc ac bc, .pointer (some ⟨g, o + 1, none⟩)] wx (Is (.bool true) wx)) := Lib.hid (fun wx hx => by
            obtain ⟨_, _, vc, vt, _, _, h1, h2⟩ := HB.out wx hx
            exact HE.out g vc vt wx h1 h2)
          go_region_held3 (fun w' => w'.cell? ⟨w.heap.size, 0, none⟩ = some (.slice pp 0 pc) ∧ w'.cell? ⟨w.heap.size, 1, none⟩ = some (.int .i64 1) ∧ w'.cell? ⟨w.heap.size, 2, none⟩ = some (.slice ap 0 ac) ∧ w'.cell? ⟨w.heap.size, 3, none⟩ = some (.slice (some ⟨g, o, none⟩) 1 bc))
            (first
              | go_keep
              | (refine ⟨?_, ?_, ?_, ?_⟩ <;> (rw [hb3.cell y0]; first | exact y1 | exact y2 | exact y3 | exact y4)))
            ((go_at_call 36; refine (HEW.out _ HW.out.drew).mono ?_; rintro e w3 ⟨rfl, hb3⟩))
          all_goals
            have H3 := Lib.hid (below_then HW.out.drew hb3)
            have HB3 := Lib.hid (HBX2.out.below ((Below.refl _ _).drew.trans hb3))
            clear hb3
            go_wp2
            exact ⟨⟨.inr rfl, H3.out, HB3.out⟩, by simp [intOf]⟩
    · clear hbw
      go_wp2
      go_ret2
      exact ⟨rfl, HBW.out⟩
end Go.Proofs.Ythaombggdchgbaa.Graph
