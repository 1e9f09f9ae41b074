/- The law LexChars: walked, for every byte. -/
import Derived.Test.YtmpahpnacpfhoaaDoorJ
namespace Go.Proofs.YtmpahpnacpfhoaaDoor
open Go.RowKit

theorem conv_one (c : UInt8) (w : World) : (convert 32 9 (.slice (some ⟨w.heap.size, 0, none⟩) 1 1)).run Tryd.prog (w.alloc (.cells #[.int .u8 (c.toNat : Int)] 5)) = .ok (.string ⟨#[c]⟩) (w.alloc (.cells #[.int .u8 (c.toNat : Int)] 5)) := by
  rw [run_convert_bytes_string _ 32 9 5 _ 1 1 Tryd.underlying32 Tryd.underlying5 Tryd.underlying9]
  rw [run_bytesToString _ ⟨w.heap.size, 0, none⟩ 1 1 [(c.toNat : Int)] (by simp [loadCells, go_sem])]
  simp
  rfl

theorem chars_fin : ∀ n : Fin 256, lexAll [39, UInt8.ofNat n.val, 39] = if n.val = 39 ∨ n.val = 92 ∨ n.val = 10 then ([], 0, 12) else ([(⟨2, [], n.val, false⟩, 0), (endTok, 3)], 0, 0) := by decide +kernel
theorem chars_plain (c : UInt8) : lexAll [39, c, 39] = if c.toNat = 39 ∨ c.toNat = 92 ∨ c.toNat = 10 then ([], 0, 12) else ([(⟨2, [], c.toNat, false⟩, 0), (endTok, 3)], 0, 0) := by
  have h := chars_fin ⟨c.toNat, c.toNat_lt⟩
  simp only [UInt8.ofNat_toNat] at h
  exact h

set_option maxHeartbeats 1000000 in
set_option maxRecDepth 100000 in
theorem chars_any (c : UInt8) (w : World) (hr : Rdy w) : Calls Tryd.prog 10 #[.int .u8 (c.toNat : Int)] w fun e w' => e = .returned (.bool true) ∧ Below w.heap.size w w' := by
  have hL : ∀ w, Rdy w → Calls Tryd.prog 11 #[.string (⟨#[39]⟩ ++ ⟨#[c]⟩ ++ ⟨#[39]⟩)] w fun e w' => LexEnd w (lexAll [39, c, 39]) e w' := fun w hr => lex_any _ w hr
  rw [chars_plain] at hL
  have hc256 : c.toNat < 256 := c.toNat_lt
  have hlv : ∀ w, Rdy w → Calls Tryd.prog 14 #[] w fun e w' => e = .returned (.bool true) ∧ Below w.heap.size w w' := live_any
  have HV := Lib.hid hlv
  have HR := Lib.hid hr
  have hcv := conv_one c w
  clear hr hlv
  by_cases h : c.toNat = 39 ∨ c.toNat = 92 ∨ c.toNat = 10
  · rw [if_pos h] at hL
    have HL := Lib.hid hL
    have h' : (c.toNat : Int) = 39 ∨ (c.toNat : Int) = 92 ∨ (c.toNat : Int) = 10 := by omega
    clear hL h
    go_enter Tryd.func10, Tryd.ntmps10
    go_wp2_with fail
    refine (HL.out _ (HR.out.below (below_one _ _))).mono ?_
    rintro e w1 ⟨v, rfl, hT, hb⟩
    have hr1 := Lib.hid (HR.out.below (below_new hb))
    have hb1 := Lib.hid (below_new hb)
    clear hT hb hcv
    go_wp2_with (go_at_call 14; refine (HV.out _ hr1.out).mono ?_; rintro e w2 ⟨rfl, hb2⟩)
    all_goals first
      | (go_ret
         exact ⟨rfl, hb1.out.trans (hb2.mono hb1.out.size)⟩)
      | (exfalso
         rename_i h4
         simp only [beq_eq_false_iff_ne, ne_eq] at h4
         omega)
  · rw [if_neg h] at hL
    have HL := Lib.hid hL
    have h1 : ¬ (c.toNat : Int) = 39 := by omega
    have h2 : ¬ (c.toNat : Int) = 92 := by omega
    have h3 : ¬ (c.toNat : Int) = 10 := by omega
    have g1 : ((c.toNat : Int) == 39) = false := by simpa using h1
    have g2 : ((c.toNat : Int) == 92) = false := by simpa using h2
    have g3 : ((c.toNat : Int) == 10) = false := by simpa using h3
    clear hL h
    go_enter Tryd.func10, Tryd.ntmps10
    go_wp2_with fail
    refine (HL.out _ (HR.out.below (below_one _ _))).mono ?_
    rintro e w1 ⟨v, rfl, hT, hb⟩
    have hr1 := Lib.hid (HR.out.below (below_new hb))
    have hb1 := Lib.hid (below_new hb)
    rcases hT.toks with ⟨h, _⟩ | ⟨g, cap, rfl, hg, hcap, hgl, _, hc⟩
    · simp at h
    · obtain ⟨_, _, _, c3, c4⟩ := hc 0 _ rfl
      clear hc hT hb hcv
      simp only [Nat.reduceMul, Nat.reduceAdd] at c3 c4
      go_wp2_with (go_at_call 14; refine (HV.out _ hr1.out).mono ?_; rintro e w2 ⟨rfl, hb2⟩)
      go_ret
      exact ⟨rfl, hb1.out.trans (hb2.mono hb1.out.size)⟩
end Go.Proofs.YtmpahpnacpfhoaaDoor
