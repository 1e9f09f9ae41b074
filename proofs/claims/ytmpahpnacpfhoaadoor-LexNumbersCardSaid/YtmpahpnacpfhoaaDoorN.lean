/- The law LexBlanks: walked, for every text and every number. -/
import Derived.Test.YtmpahpnacpfhoaaDoorM
import Derived.Test.YtmpahpnacpfhoaaDoorPlT
namespace Go.Proofs.YtmpahpnacpfhoaaDoor
open Go.RowKit

theorem conv_byte (n : Int) (w : World) : (convert 32 9 (.slice (some ⟨w.heap.size, 0, none⟩) 1 1)).run Tryd.prog (w.alloc (.cells #[.int .u8 n] 5)) = .ok (.string ⟨#[UInt8.ofNat n.toNat]⟩) (w.alloc (.cells #[.int .u8 n] 5)) := by
  rw [run_convert_bytes_string _ 32 9 5 _ 1 1 Tryd.underlying32 Tryd.underlying5 Tryd.underlying9]
  rw [run_bytesToString _ ⟨w.heap.size, 0, none⟩ 1 1 [n] (by simp [loadCells, go_sem])]
  simp
  rfl

theorem append_data (a b : ByteArray) : (a ++ b).data.toList = a.data.toList ++ b.data.toList := by
  rw [ByteArray.data_append, Array.toList_append]

set_option maxHeartbeats 2000000 in
set_option maxRecDepth 100000 in
theorem blanks_any (s : ByteArray) (c : UInt8) (w : World) (hr : Rdy w) : Calls Tryd.prog 6 #[.string s, .int .u8 (c.toNat : Int)] w fun e w' => e = .returned (.bool true) ∧ Below w.heap.size w w' := by
  have HR := Lib.hid hr
  have HV := Lib.hid live_any
  have hc256 : c.toNat < 256 := c.toNat_lt
  obtain ⟨⟨ts, p, er⟩, hR⟩ : ∃ R, R = lexAll s.data.toList := ⟨_, rfl⟩
  have hL := lex_any s w hr
  rw [← hR] at hL
  have HL := Lib.hid hL
  clear hr hL
  by_cases hbig : 20000 ≤ s.size
  · clear hR
    go_enter Tryd.func6, Tryd.ntmps6
    go_wp2_with fail
    refine HL.out.mono ?_
    rintro e w1 ⟨v, rfl, hT, hb⟩
    have hr1 := Lib.hid (HR.out.below hb)
    clear hT
    go_wp2_with (go_at_call 14; refine (HV.out _ hr1.out).mono ?_; rintro e w2 ⟨rfl, hb2⟩)
    go_ret
    exact ⟨rfl, hb.trans (hb2.mono hb.size)⟩
  · obtain ⟨d, hd⟩ : ∃ d : UInt8, d = UInt8.ofNat (9 + (c.toNat : Int) % 5).toNat := ⟨_, rfl⟩
    have hdb : blankB d = true := by
      have : d.toNat = 9 + c.toNat % 5 := by
        rw [hd, UInt8.toNat_ofNat_of_lt' (by show _ < 256; omega)]; omega
      unfold blankB
      exact decide_eq_true (by omega)
    have hA := lexAll_blank hdb s.data.toList (by rw [← Lib.size_eq]; omega)
    rw [← hR] at hA
    obtain ⟨⟨ts', p', er'⟩, hR'⟩ : ∃ R, R = lexAll (s.data.toList ++ [d]) := ⟨_, rfl⟩
    rw [← hR'] at hA
    obtain ⟨hA1, hA2⟩ := hA
    simp only [Prod.mk.injEq] at hA1 hA2
    obtain ⟨rfl, rfl⟩ := hA1
    have hL2 : ∀ w, Rdy w → Calls Tryd.prog 11 #[.string (s ++ ⟨#[d]⟩)] w fun e w' => LexEnd w (ts', p', er') e w' := fun w hr => by
      have := lex_any (s ++ ⟨#[d]⟩) w hr
      rw [append_data] at this
      rw [hR']; exact this
    have hlen := lexAll_len s.data.toList
    rw [← hR] at hlen
    simp only at hlen
    have HM := Lib.hid hA2
    have HL2 := Lib.hid hL2
    have HD := Lib.hid hd
    have hcv := fun w => conv_byte (9 + (c.toNat : Int) % 5) w
    rw [← hd] at hcv
    clear hR hR' hL2 hA2 hd hdb
    go_enter Tryd.func6, Tryd.ntmps6
    go_wp2_with fail
    refine HL.out.mono ?_
    rintro e w1 ⟨v, rfl, hT, hb⟩
    have hcv1 := hcv w1
    have HT := Lib.hid hT
    clear hcv hT
    go_wp2_with fail
    have hr1 := HR.out.below hb
    refine (HL2.out _ (hr1.below (below_one _ _))).mono ?_
    rintro e w2 ⟨v2, rfl, hT2, hb2⟩
    have hb12 := below_new hb2
    have hr2 := Lib.hid (hr1.below hb12)
    have hbw := Lib.hid (hb.trans (hb12.mono hb.size))
    have h1 := (TokRow.toks HT.out).below hb12
    have h2 := TokRow.toks hT2
    have HK := Lib.hid (alike_any ts ts' v v2 _ _ w2 h1 h2 HM.out.symm hlen)
    clear hT2 h1 h2 hr1 hcv1 hb2 hb12
    by_cases h12 : er' = 12
    · subst h12
      go_wp2_with (go_at_call 14; refine (HV.out _ hr2.out).mono ?_; rintro e w3 ⟨rfl, hb3⟩)
      go_ret
      exact ⟨rfl, hbw.out.trans (hb3.mono hbw.out.size)⟩
    · by_cases h13 : er' = 13
      · subst h13
        go_wp2_with (go_at_call 14; refine (HV.out _ hr2.out).mono ?_; rintro e w3 ⟨rfl, hb3⟩)
        go_ret
        exact ⟨rfl, hbw.out.trans (hb3.mono hbw.out.size)⟩
      · have e12 : ((er' : Int) == 12) = false := by rw [beq_eq_false_iff_ne]; omega
        have e13 : ((er' : Int) == 13) = false := by rw [beq_eq_false_iff_ne]; omega
        clear h12 h13
        go_wp2_with (first | (go_at_call 15; refine HK.out.mono ?_; rintro e w3 ⟨rfl, hb3⟩) | (go_at_call 14; refine (HV.out _ (hr2.out.below hb3)).mono ?_; rintro e w4 ⟨rfl, hb4⟩))
        go_ret
        exact ⟨rfl, (hbw.out.trans (hb3.mono hbw.out.size)).trans (hb4.mono (Nat.le_trans hbw.out.size hb3.size))⟩
end Go.Proofs.YtmpahpnacpfhoaaDoor
