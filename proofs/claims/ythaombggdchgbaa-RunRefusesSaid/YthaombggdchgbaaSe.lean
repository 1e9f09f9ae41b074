/- The module of run's 'live': Check at it. -/
import Derived.Test.YthaombggdchgbaaSd
namespace Go.Proofs.Ythaombggdchgbaa.Graph
open Go.RowKit

theorem out_live : outE liveM = 0 := by decide +kernel
theorem head_live : headE liveM liveG = 0 := by decide +kernel
set_option maxHeartbeats 4000000 in
set_option maxRecDepth 100000 in
theorem check_live (vg vr vf : Value) (w : World) (hM : ModL w vg vr vf liveM) :
    Calls Try.prog 6 #[modV liveM vg vr vf] w (Is (.tuple #[.int .i64 (-1), .int .i64 (-1), .int .i64 0]) w) := by
  have HO : Hid (∀ wx, Below w.heap.size w wx → Calls Try.prog 14 #[modV liveM vg vr vf] wx (Is (.int .i64 0) wx)) := Lib.hid (fun wx hx => by
    have h := outside_any liveM vg vr vf wx (hM.below hx)
    rw [out_live] at h; exact h)
  have HF := hM.funcs
  have HD : Hid (∀ wx, Below w.heap.size w wx → Calls Try.prog 16 #[modV liveM vg vr vf] wx fun e w' => ∃ p n c, e = .returned (.slice p n c) ∧ Below wx.heap.size wx w') := Lib.hid (fun wx hx =>
    (handed_any liveM vg vr vf wx (hM.below hx) (by simp)).mono fun e w' h => by
      obtain ⟨v, h1, ⟨_, h3⟩, h2⟩ := h
      rcases h3 with ⟨rfl, _⟩ | ⟨g, cap, cur, rfl, _⟩
      · exact ⟨_, _, _, h1, h2⟩
      · exact ⟨_, _, _, h1, h2⟩)
  obtain ⟨gp, gc, rfl⟩ := hM.globals.form
  obtain ⟨rp, rc, rfl⟩ := hM.arrays.form
  obtain ⟨g, o, fc, rfl, ⟨k0, k1⟩, hg, _⟩ := SlR.form2 HF (by simp)
  have HG := Lib.hid (fun (wr : World) (hw : Below w.heap.size w wr) => gr_at HF hw (k := 0) rfl)
  have HH : Hid (∀ wx vp va vb, Below w.heap.size w wx → GrL wx vp va vb liveG → Calls Try.prog 15 #[modV liveM (.slice gp 0 gc) (.slice rp 0 rc) (.slice (some ⟨g, o, none⟩) 1 fc), grV liveG vp va vb] wx (Is (.int .i64 0) wx)) := Lib.hid (fun wx vp va vb hx hl => by
    have h := head_any liveM _ _ _ liveG vp va vb wx (hM.below hx) hl
    rw [head_live] at h; exact h)
  unfold modV grV at *
  clear hM HF
  go_enter Try.func6, Try.ntmps6
  go_wp2_with (go_at_call 14; refine (HO.out _ (below_alloc w _)).mono ?_; rintro e w2 ⟨rfl, h2⟩
               have B2 : Box4 w2 w.heap.size (.slice gp 0 gc) (.slice rp 0 rc) (.slice (some ⟨g, o, none⟩) 1 fc) (.int .i64 0) := Box4.below ⟨by go_simp, by go_simp, by go_simp, by go_simp, by go_simp⟩ h2
               have H2 := Lib.hid (below_then (below_alloc w _) h2); have HB2 := Lib.hid B2; obtain ⟨y0, y1, y2, y3, y4⟩ := B2; clear h2)
  go_loopw [22] (fun i wr => (i = .int .i64 0 ∨ i = .int .i64 1) ∧ Below w.heap.size w wr ∧ Box4 wr w.heap.size (.slice gp 0 gc) (.slice rp 0 rc) (.slice (some ⟨g, o, none⟩) 1 fc) (.int .i64 0)) (fun i _ => 1 - (intOf i).toNat)
  case atStart => exact ⟨.inl rfl, H2.out, HB2.out⟩
  case round =>
    obtain ⟨hi, hbw, hbox⟩ := hrel
    have HBW := Lib.hid hbw
    have HBX := Lib.hid hbox
    obtain ⟨z0, z1, z2, z3, z4⟩ := hbox
    rcases hi with rfl | rfl
    · obtain ⟨pp, pc, ap, ac, bp, bc, c0, c1, c2, c3, hl, l0⟩ := HG.out wr hbw
      have e0 : o + 0 * 4 = o := by omega
      rw [e0] at c0 c1 c2 c3
      have HL := Lib.hid hl
      clear hbw hl e0
      go_wp2_with (go_at_call 15; refine (HH.out _ (.slice pp 0 pc) (.slice ap 0 ac) (.slice bp 1 bc) (HBW.out.alloc HBW.out.size _) (HL.out.below (below_alloc wr _))).mono ?_; rintro e w3 ⟨rfl, h3⟩
                   have H3 := Lib.hid (below_then (below_alloc wr _) h3); clear h3)
      exact ⟨⟨.inr rfl, below_then HBW.out H3.out, HBX.out.below H3.out⟩, by simp [intOf]⟩
    · clear hbw
      go_wp2
      go_cut [9] (fun v wc => ∃ cb, v = .pointer (some ⟨cb, 0, none⟩) ∧ Below w.heap.size w wc ∧ Box4 wc w.heap.size (.slice gp 0 gc) (.slice rp 0 rc) (.slice (some ⟨g, o, none⟩) 1 fc) (.int .i64 0))
      case first =>
        have hn0 : wr.heap.size ≠ w.heap.size := Nat.ne_of_gt z0
        go_region_held3 (fun w' => w'.cell? ⟨w.heap.size, 0, none⟩ = some (.slice gp 0 gc) ∧ w'.cell? ⟨w.heap.size, 1, none⟩ = some (.slice rp 0 rc) ∧ w'.cell? ⟨w.heap.size, 2, none⟩ = some (.slice (some ⟨g, o, none⟩) 1 fc) ∧ w'.cell? ⟨w.heap.size, 3, none⟩ = some (.int .i64 0))
          (go_keep)
          (first
            | (go_at_call 16; refine (HD.out _ HBW.out.drew).mono ?_; rintro e w3 ⟨p, n, c, rfl, hb3⟩; have hn3 : w3.heap.size ≠ w.heap.size := Nat.ne_of_gt (Nat.lt_of_lt_of_le z0 hb3.size)
               have hq3 : Below wr.heap.size wr w3 := (Below.refl _ wr).drew.trans hb3
               have HX3 := Lib.hid (HBX.out.below hq3); obtain ⟨x0, x1, x2, x3, x4⟩ := HX3.out)
            | (go_at_call 16; refine (HD.out _ (HBW.out.alloc HBW.out.size _).drew).mono ?_; rintro e w3 ⟨p, n, c, rfl, hb3⟩
               have hq3 : Below wr.heap.size wr w3 := (below_alloc wr _).drew.trans (hb3.mono (by simp [World.size_alloc]))
               have hn3 : w3.heap.size ≠ w.heap.size := Nat.ne_of_gt (Nat.lt_of_lt_of_le z0 hq3.size)
               have HX3 := Lib.hid (HBX.out.below hq3); obtain ⟨x0, x1, x2, x3, x4⟩ := HX3.out
               have hk := (hb3.block wr.heap.size (by simp [World.size_alloc])).trans (heap_new wr _)
               obtain ⟨a0, f0⟩ := cell_of_block hk (k := 0) rfl
               obtain ⟨a1, f1⟩ := cell_of_block hk (k := 1) rfl
               obtain ⟨a2, f2⟩ := cell_of_block hk (k := 2) rfl
               obtain ⟨a3, f3⟩ := cell_of_block hk (k := 3) rfl
               obtain ⟨a4, f4⟩ := cell_of_block hk (k := 4) rfl
               obtain ⟨a5, f5⟩ := cell_of_block hk (k := 5) rfl
               clear hk))
        all_goals
          rename_i hHeld
          have HH2 := Lib.hid hHeld
          have hbW : Below w.heap.size w w3 := below_then HBW.out hq3
          have hsz := HBW.out.size
          have hsz3 := HX3.out.1
          clear hHeld
          go_wp2_with fail
          go_meet
          refine ⟨_, rfl, ?_, ?_, HH2.out.1, HH2.out.2.1, HH2.out.2.2.1, HH2.out.2.2.2⟩
          · first
              | (have := f5; exact (((((hbW.setCell hsz _).setCell hsz _).setCell hsz _).setCell hsz _).setCell hsz _).setCell hsz _)
              | exact hbW.alloc hbW.size _
          · first
              | (have := f5; simpa using hsz3)
              | (rw [World.size_alloc]; exact Nat.lt_succ_of_lt hsz3)
      case rest =>
      obtain ⟨cb, rfl, hbc, hbx⟩ := hcut
      have HBC := Lib.hid hbc
      obtain ⟨v0, v1, v2, v3, v4⟩ := hbx
      clear hbc z0 z1 z2 z3 z4 y0 y1 y2 y3 y4
      go_wp2
      go_loopw [42] (fun i wr => (i = .int .i64 0 ∨ i = .int .i64 1) ∧ Below w.heap.size w wr) (fun i _ => 1 - (intOf i).toNat)
      case atStart => exact ⟨.inl rfl, HBC.out⟩
      case round =>
        obtain ⟨hi, hbw⟩ := hrel
        have HBQ := Lib.hid hbw
        rcases hi with rfl | rfl
        · obtain ⟨pp, pc, ap, ac, bp, bc, c0, c1, c2, c3, hl, l0⟩ := HG.out _ hbw
          have e0 : o + 0 * 4 = o := by omega
          rw [e0] at c0 c1 c2 c3
          have HL := Lib.hid hl
          clear hbw hl e0
          go_wp2_with (go_at_call 17; refine (blocks_live cb (.slice pp 0 pc) (.slice ap 0 ac) (.slice bp 1 bc) _ (HL.out.below (below_alloc _ _))).mono ?_; rintro e w3 ⟨rfl, h3⟩
                       have H3 := Lib.hid (below_then (below_alloc _ _) h3); clear h3)
          exact ⟨⟨.inr rfl, below_then HBQ.out H3.out⟩, by simp [intOf]⟩
        · clear hbw
          go_wp2
          go_ret3
          exact ⟨rfl, HBQ.out⟩
end Go.Proofs.Ythaombggdchgbaa.Graph
