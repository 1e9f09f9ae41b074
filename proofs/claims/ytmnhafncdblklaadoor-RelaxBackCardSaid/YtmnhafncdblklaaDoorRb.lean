/- The law RelaxBack, where the program's assembler and Decode do what the plain ones do. -/
import Derived.Test.YtmnhafncdblklaaDoorQt
namespace Go.Proofs.YtmnhafncdblklaaDoor.Relax
open Go.RowKit Go.Proofs.YtmnhafncdblklaaDoor.Enc Go.Proofs.YtmnhafncdblklaaDoor.Graph

set_option maxHeartbeats 16000000 in
set_option maxRecDepth 100000 in
theorem back_any (D : DoesAsm) (E : DoesDec) (l : List PL) (v : Value) (w : World) (h : LinesR w v l) (hs : SmL l) (hF : FormsAt w) :
    Calls Tryd.prog 5 #[v] w (Is (.bool true) w) := by
  obtain ⟨a, line, er, ha⟩ : ∃ a line er, asmP l = (a, line, er) := ⟨_, _, _, rfl⟩
  have HA := Lib.hid (D.at_ ha v w h hs hF)
  have HL := Lib.hid (live_any D)
  obtain ⟨p, c, rfl⟩ := h.form
  have hcap := sl_len h
  by_cases he : er = 0
  case neg =>
    have hno := asm_no ha he
    subst hno
    have g0 : (er == 0) = false := by simpa using he
    have g1 : (er != 0) = true := by simpa using he
    unfold noAsm at HA
    simp only at HA
    obtain ⟨n, hn⟩ : ∃ n, n = l.length := ⟨_, rfl⟩
    rw [← hn] at HA ⊢
    clear ha hs h D E hn he
    go_enter Tryd.func5, Tryd.ntmps5
    go_wp2_with (first
      | (go_at_call 11; refine HA.out.mono ?_; rintro e w2 ⟨pw, cw, pk, ck, pp, cp, rfl, hr, hb⟩; have H2 := Lib.hid hb; have kf2 := hF.below hb; clear hr hb)
      | (go_at_call 13; refine (HL.out _ (by repeat (first | assumption | apply FormsAt.alloc | apply FormsAt.drew | apply FormsAt.drewN))).mono ?_; rintro e w3 ⟨rfl, hb3⟩; have H3 := Lib.hid hb3; have d0 := hb3.cell (p := ⟨w2.heap.size, 0, none⟩) (by simp); have d1 := hb3.cell (p := ⟨w2.heap.size, 1, none⟩) (by simp); have d2 := hb3.cell (p := ⟨w2.heap.size, 2, none⟩) (by simp); clear hb3))
    go_ret
    exact ⟨rfl, bt H2.out (bt (below_one w2 _) H3.out)⟩
  subst he
  obtain ⟨hl1, hl2, hl3⟩ := asm_len ha
  have hn6 := taken_len (asm_ref ha)
  have hN6 := (asm_yes ha).2.1
  have HEND := Lib.hid (fun k (hk : k < l.length) => asm_end ha hk)
  have HP2 := Lib.hid (asm_places ha).2
  have HLN := Lib.hid (fun (k : Nat) (hk : k < l.length) (v vw vk vp : Value) (wx : World) (hv : LinesR wx v l) (hr : AsmR wx a vw vk vp) (hF : FormsAt wx) => line_at E l a line ha v vw vk vp wx hv hr hF k hk)
  have HAP := Lib.hid hl3
  unfold asmV at HLN
  have HV := Lib.hid h
  obtain ⟨n, hn⟩ : ∃ n, n = l.length := ⟨_, rfl⟩
  have HN := Lib.hid hn
  obtain ⟨N, hN⟩ : ∃ N, N = placeP l (longP l).1 l.length := ⟨_, rfl⟩
  have HNN := Lib.hid hN
  obtain ⟨rd, hrd⟩ : ∃ n, n = a.rounds := ⟨_, rfl⟩
  rw [hl1, hl2, hl3, ← hN, ← hn, ← hrd] at HA
  rw [← hrd] at HLN
  rw [← hN] at hN6
  rw [← hn] at hn6 hcap HV HP2 HEND ⊢
  have n1 : (n : Int) ≤ 60000 := by omega
  have n2 : (N : Int) ≤ 65536 := by omega
  clear hs h D E hn hN hrd ha hl1 hl2 hl3
  go_enter Tryd.func5, Tryd.ntmps5
  go_wp2_with (
    (go_at_call 11; refine HA.out.mono ?_; rintro e w2 ⟨pw, cw, pk, ck, pp, cp, rfl, hr, hb⟩; have H2 := Lib.hid hb; have HR := Lib.hid hr; have kf2 := hF.below hb; clear hr hb))
  have HB3 : Hid (Below w.heap.size w (w2.alloc (.cells #[.slice pw N cw, .slice pk N ck, .slice pp n cp, .int .i64 rd] 27))) := Lib.hid (bt H2.out (below_one w2 _))
  have HR3 := Lib.hid (HR.out.below (below_one w2 (.cells #[.slice pw N cw, .slice pk N ck, .slice pp n cp, .int .i64 rd] 27)))
  have kf3 : FormsAt (w2.alloc (.cells #[.slice pw N cw, .slice pk N ck, .slice pp n cp, .int .i64 rd] 27)) := kf2.alloc _
  have HBX : Hid ((w2.alloc (.cells #[.slice pw N cw, .slice pk N ck, .slice pp n cp, .int .i64 rd] 27)).heap[w2.heap.size]? = some (.cells #[.slice pw N cw, .slice pk N ck, .slice pp n cp, .int .i64 rd] 27 (0, 0))) := Lib.hid (heap_alloc_new w2 _)
  obtain ⟨bx, hbx⟩ : ∃ bx, bx = w2.heap.size := ⟨_, rfl⟩
  have HLT : Hid (bx < (w2.alloc (.cells #[.slice pw N cw, .slice pk N ck, .slice pp n cp, .int .i64 rd] 27)).heap.size) := Lib.hid (by rw [hbx]; simp)
  rw [← hbx] at HBX ⊢
  clear hbx HR kf2 H2
  generalize (w2.alloc (.cells #[.slice pw N cw, .slice pk N ck, .slice pp n cp, .int .i64 rd] 27)) = w3 at HB3 HR3 kf3 HBX HLT ⊢
  go_loopw [6, 7] (fun q i wr => ∃ k : Nat, k ≤ n ∧ i = .int .i64 k ∧ q = .int .i64 (placeP l (longP l).1 k) ∧ Hid (Below w3.heap.size w3 wr)) (fun _ i _ => n - (intOf i).toNat)
  case atStart => exact ⟨0, Nat.zero_le _, rfl, rfl, Lib.hid (Below.refl _ _)⟩
  case round =>
    obtain ⟨k, hk, rfl, rfl, HBQ⟩ := hrel
    have hbq := HBQ.out
    have i0 : (0 : Int) ≤ k := by omega
    have hXr := (hbq.block bx HLT.out).trans HBX.out
    have x0 := cell_of_block hXr (k := 0) rfl
    have x1 := cell_of_block hXr (k := 1) rfl
    have x2 := cell_of_block hXr (k := 2) rfl
    have x3 := cell_of_block hXr (k := 3) rfl
    have zx := lt_of_block hXr
    have kfr := kf3.below hbq
    have HRR := Lib.hid (HR3.out.below hbq)
    have HVR := Lib.hid (HV.out.below (bt HB3.out hbq))
    clear hbq
    by_cases hlt : k < n
    · obtain ⟨t, hT⟩ : ∃ t, t = placeP l (longP l).1 k := ⟨_, rfl⟩
      have hlk : k < l.length := by rw [← HN.out]; exact hlt
      obtain ⟨b1, o1, t', hvp, ht', hl1, e1, hcp1, _⟩ := ints_pt (p := pp) (n := n) (c := cp) HRR.out.places (k := k) (by rw [HAP.out]; exact hlk)
      obtain rfl : (t : Int) = t' := by rw [HP2.out k hlt, ← hT] at ht'; simpa using ht'
      subst hvp
      have hend := HEND.out k hlt
      have HS : Hid (placeP l (longP l).1 (k + 1) = t + sizeP (lineAt l k) (longAt (longP l).1 k)) := Lib.hid (by rw [hT]; rfl)
      have HC := Lib.hid (HLN.out k hlk _ _ _ _ wr HVR.out HRR.out kfr)
      rw [← hT] at HC hend ⊢
      generalize sizeP (lineAt l k) (longAt (longP l).1 k) = s at HC hend HS
      have i1 : (k : Int) < n := by omega
      have i2 : (n : Int) ≤ cp := by have := HAP.out; have := HN.out; omega
      have i3 : (t : Int) + s ≤ 65536 := by omega
      have i4 : (0 : Int) ≤ t := by omega
      have i5 : (0 : Int) ≤ s := by omega
      clear hT ht' hXr hcp1 hend hlk HRR HVR
      go_wp2_with (
        (go_at_call 18; refine HC.out.mono ?_; rintro e w5 ⟨rfl, hb5⟩; have H5 := Lib.hid hb5; clear hb5))
      exact ⟨⟨k + 1, by omega, by go_num, by rw [HS.out]; go_num, Lib.hid (bt HBQ.out H5.out)⟩, by simp [intOf]; omega⟩
    · have hkn : k = n := by omega
      subst hkn
      have hpn : placeP l (longP l).1 k = N := by rw [HNN.out, ← HN.out]
      rw [hpn]
      clear hlt hpn
      go_wp2_with (go_at_call 13; refine (HL.out _ kfr).mono ?_; rintro e w8 ⟨rfl, hb8⟩; have H8 := Lib.hid hb8; have d0 := (hb8.cell (p := ⟨bx, 0, none⟩) zx).trans x0; clear hb8)
      go_ret
      exact ⟨rfl, bt HB3.out (bt HBQ.out H8.out)⟩
end Go.Proofs.YtmnhafncdblklaaDoor.Relax
