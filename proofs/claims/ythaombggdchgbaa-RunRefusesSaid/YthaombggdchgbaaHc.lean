/- The two modules of 'live': their blocks. -/
import Derived.Test.YthaombggdchgbaaHb
namespace Go.Proofs.Ythaombggdchgbaa.Graph
open Go.RowKit

abbrev goodB : PBlk := ⟨[], retE⟩
abbrev badB : PBlk := ⟨[badI], retE⟩
abbrev oneG (b : PBlk) : PGr := ⟨[], 0, [], [b]⟩
theorem first_blk {w wr : World} {g o cap n : Nat} {t : PBlk} (h : BlksR w (.slice (some ⟨g, o, none⟩) n cap) [t]) (hb : Below w.heap.size w wr) :
    ∃ pk ck vc vt, wr.cell? ⟨g, o, none⟩ = some (.slice pk t.code.length ck) ∧ CodeR wr (.slice pk t.code.length ck) t.code ∧ EndR wr g (o + 1) t.fin vc vt ∧ g < wr.heap.size := by
  obtain ⟨h1, h2⟩ := SlR.at_ h (show 0 < [t].length by simp)
  obtain ⟨vk, vc, vt, h3⟩ := h1 t rfl
  replace h3 := h3.below h2 hb
  obtain ⟨pk, ck, rfl⟩ := h3.code.form
  have e : o + 0 * 10 = o := by omega
  rw [e] at h3
  exact ⟨pk, ck, vc, vt, h3.ck, h3.code, h3.fin, Nat.lt_of_lt_of_le h2 hb.size⟩
set_option maxHeartbeats 4000000 in
set_option maxRecDepth 100000 in
theorem blocks_good (cb : Nat) (vp va vb : Value) (w : World) (h : GrL w vp va vb (oneG goodB)) :
    Calls Try.prog 17 #[.pointer (some ⟨cb, 0, none⟩), grV (oneG goodB) vp va vb] w (Is (.tuple #[.int .i64 (-1), .int .i64 0]) w) := by
  obtain ⟨pp, pc, rfl⟩ := h.params.form
  obtain ⟨ap, ac, rfl⟩ := h.arrays.form
  have hB := h.blocks
  obtain ⟨g, o, bc, rfl, ⟨k0, k1⟩, hg, _⟩ := SlR.form2 hB (by simp)
  have HB := Lib.hid (fun (wr : World) (hw : Below w.heap.size w wr) => first_blk hB hw)
  have HE := Lib.hid (fun (b : Nat) (vc vt : Value) (wr : World) => end_good cb pp ap (some ⟨g, o, none⟩) 0 0 1 pc ac bc b (o + 1) vc vt wr)
  unfold grV
  clear h hB
  go_enter Try.func17, Try.ntmps17
  go_wp2
  go_loopw [12] (fun i wr => ∃ k : Nat, k ≤ 1 ∧ i = .int .i64 k ∧ Below w.heap.size w wr ∧ Box4 wr w.heap.size (.slice pp 0 pc) (.int .i64 0) (.slice ap 0 ac) (.slice (some ⟨g, o, none⟩) 1 bc)) (fun i _ => 1 - (intOf i).toNat)
  case atStart => exact ⟨0, Nat.zero_le _, rfl, by go_simp; exact below_alloc w _, by go_simp, by go_simp, by go_simp, by go_simp, by go_simp⟩
  case round =>
    obtain ⟨k, hk, rfl, hbw, hbox⟩ := hrel
    have HBW := Lib.hid hbw
    have HBX := Lib.hid hbox
    obtain ⟨z0, z1, z2, z3, z4⟩ := hbox
    obtain rfl | rfl : k = 0 ∨ k = 1 := by omega
    · obtain ⟨pk, ck, vc, vt, c0, _, he, l0⟩ := HB.out wr hbw
      have HE0 := Lib.hid he
      clear hbw he
      go_wp2
      go_loopw [22] (fun i wq => i = .int .i64 0 ∧ wq = wr) (fun _ _ => 0)
      case atStart => exact ⟨rfl, rfl⟩
      case round =>
        obtain ⟨rfl, rfl⟩ := hrel
        go_wp2
        have HEW : Hid (∀ wx, Below w.heap.size w wx → Calls Try.prog 36 #[.pointer (some ⟨cb, 0, none⟩), g0V pp ap (some ⟨g, o, none⟩) 0 0 1 pc ac bc, .pointer (some ⟨g, o + 1, none⟩)] wx (Is (.bool true) wx)) := Lib.hid (fun wx hx => by
          obtain ⟨_, _, vc, vt, _, _, h1, h2⟩ := HB.out wx hx
          exact end_good cb pp ap (some ⟨g, o, none⟩) 0 0 1 pc ac bc g (o + 1) vc vt wx h1 h2)
        go_region_held3 (fun w' => w'.cell? ⟨w.heap.size, 0, none⟩ = some (.slice pp 0 pc) ∧ w'.cell? ⟨w.heap.size, 1, none⟩ = some (.int .i64 0) ∧ w'.cell? ⟨w.heap.size, 2, none⟩ = some (.slice ap 0 ac) ∧ w'.cell? ⟨w.heap.size, 3, none⟩ = some (.slice (some ⟨g, o, none⟩) 1 bc))
          (first
            | go_keep
            | (refine ⟨?_, ?_, ?_, ?_⟩ <;> (rw [hb3.cell z0]; first | exact z1 | exact z2 | exact z3 | exact z4)))
          ((go_at_call 36; refine (HEW.out _ HBW.out.drew).mono ?_; rintro e w3 ⟨rfl, hb3⟩))
        all_goals
          have H3 := Lib.hid (below_then HBW.out.drew hb3)
          have HB3 := Lib.hid (HBX.out.below ((Below.refl _ wr).drew.trans hb3))
          clear hb3
          go_wp2
          exact ⟨⟨1, by omega, by go_num, H3.out, HB3.out⟩, by simp [intOf]⟩
    · clear hbw
      go_wp2
      go_ret2
      exact ⟨rfl, HBW.out⟩
set_option maxHeartbeats 4000000 in
set_option maxRecDepth 100000 in
theorem blocks_bad (cb : Nat) (vp va vb : Value) (w : World) (h : GrL w vp va vb (oneG badB)) :
    Calls Try.prog 17 #[.pointer (some ⟨cb, 0, none⟩), grV (oneG badB) vp va vb] w (Is (.tuple #[.int .i64 0, .int .i64 51]) w) := by
  obtain ⟨pp, pc, rfl⟩ := h.params.form
  obtain ⟨ap, ac, rfl⟩ := h.arrays.form
  have hB := h.blocks
  obtain ⟨g, o, bc, rfl, ⟨k0, k1⟩, hg, _⟩ := SlR.form2 hB (by simp)
  have HB := Lib.hid (fun (wr : World) (hw : Below w.heap.size w wr) => first_blk hB hw)
  unfold grV
  clear h hB
  go_enter Try.func17, Try.ntmps17
  go_wp2
  go_loopw [12] (fun i wr => i = .int .i64 0 ∧ Below w.heap.size w wr ∧ Box4 wr w.heap.size (.slice pp 0 pc) (.int .i64 0) (.slice ap 0 ac) (.slice (some ⟨g, o, none⟩) 1 bc)) (fun _ _ => 0)
  case atStart => exact ⟨rfl, by go_simp; exact below_alloc w _, by go_simp, by go_simp, by go_simp, by go_simp, by go_simp⟩
  case round =>
    obtain ⟨rfl, hbw, hbox⟩ := hrel
    have HBW := Lib.hid hbw
    obtain ⟨z0, z1, z2, z3, z4⟩ := hbox
    obtain ⟨pk, ck, vc, vt, c0, hcode, _, l0⟩ := HB.out wr hbw
    obtain ⟨gc, oc, cc, hv, ⟨j0, j1⟩, hgc, hci⟩ := SlR.form2 hcode (by simp)
    injection hv with hv1 hv2 hv3
    subst hv1 hv3
    have HI : Hid (∀ wx, Below wr.heap.size wr wx → Calls Try.prog 35 #[.pointer (some ⟨cb, 0, none⟩), g0V pp ap (some ⟨g, o, none⟩) 0 0 1 pc ac bc, .pointer (some ⟨gc, oc, none⟩)] wx (Is (.int .i64 51) wx)) := Lib.hid (fun wx hx => by
      obtain ⟨va, vr, h1⟩ := hci 0 (by simp) badI rfl
      have e : oc + 0 * 8 = oc := by omega
      rw [e] at h1
      exact ins_bad cb pp ap (some ⟨g, o, none⟩) 0 0 1 pc ac bc gc oc va vr wx (h1.below hgc hx) (Nat.lt_of_lt_of_le hgc hx.size))
    clear hbw hcode hci hv2
    go_wp2
    go_loopw [22] (fun i wq => i = .int .i64 0 ∧ wq = wr) (fun _ _ => 0)
    case atStart => exact ⟨rfl, rfl⟩
    case round =>
      obtain ⟨rfl, rfl⟩ := hrel
      go_wp2
      go_region_held3 (fun w' => w'.cell? ⟨w.heap.size, 0, none⟩ = some (.slice pp 0 pc) ∧ w'.cell? ⟨w.heap.size, 1, none⟩ = some (.int .i64 0) ∧ w'.cell? ⟨w.heap.size, 2, none⟩ = some (.slice ap 0 ac) ∧ w'.cell? ⟨w.heap.size, 3, none⟩ = some (.slice (some ⟨g, o, none⟩) 1 bc) ∧ w'.cell? ⟨g, o, none⟩ = some (.slice (some ⟨gc, oc, none⟩) 1 ck))
        (first
          | go_keep
          | (refine ⟨?_, ?_, ?_, ?_, ?_⟩ <;> (first | (rw [hb3.cell z0]; first | exact z1 | exact z2 | exact z3 | exact z4) | (rw [hb3.cell l0]; exact c0))))
        ((go_at_call 35; refine (HI.out _ (Below.refl _ _).drew).mono ?_; rintro e w3 ⟨rfl, hb3⟩))
      all_goals
        have H3 := Lib.hid (below_then HBW.out.drew hb3)
        clear hb3
        go_wp2
        go_ret2
        exact ⟨rfl, H3.out⟩
end Go.Proofs.Ythaombggdchgbaa.Graph
