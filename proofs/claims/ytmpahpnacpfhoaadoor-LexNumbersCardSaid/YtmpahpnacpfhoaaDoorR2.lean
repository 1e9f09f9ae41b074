/- The law LexNumbers: walked, for every word. -/
import Derived.Test.YtmpahpnacpfhoaaDoorPlM
namespace Go.Proofs.YtmpahpnacpfhoaaDoor
open Go.RowKit

set_option maxHeartbeats 4000000 in
set_option maxRecDepth 100000 in
theorem numbers_any (n : Nat) (hn : n ≤ 4294967295) (w : World) (hr : Rdy w) : Calls Tryd.prog 9 #[.int .u32 n] w fun e w' => e = .returned (.bool true) ∧ Below w.heap.size w w' := by
  have f10 := forms10 n hn
  have f16 := forms16 n hn
  have f8 := forms8 n hn
  have HR := Lib.hid hr
  have HV := Lib.hid live_any
  obtain ⟨X0, hX0⟩ : ∃ X : ByteArray, X = ⟨(baseL 10 n).toArray⟩ := ⟨_, rfl⟩
  obtain ⟨Y1, hY1⟩ : ∃ X : ByteArray, X = ⟨(baseL 16 n).toArray⟩ := ⟨_, rfl⟩
  obtain ⟨Y2, hY2⟩ : ∃ X : ByteArray, X = ⟨(baseL 8 n).toArray⟩ := ⟨_, rfl⟩
  have hB0 := fun w => based_any n 10 w (by omega) (by omega) hn
  have hB1 := fun w => based_any n 16 w (by omega) (by omega) hn
  have hB2 := fun w => based_any n 8 w (by omega) (by omega) hn
  have z0 := baseL_short (b := 10) (by omega) 32 n (by omega)
  have z1 := baseL_short (b := 16) (by omega) 32 n (by omega)
  have z2 := baseL_short (b := 8) (by omega) 32 n (by omega)
  have y0 : (X0.size : Int) ≤ 100 := by rw [hX0]; show (((baseL 10 n).toArray.size : Nat) : Int) ≤ 100; simp; omega
  have y1 : (Y1.size : Int) ≤ 100 := by rw [hY1]; show (((baseL 16 n).toArray.size : Nat) : Int) ≤ 100; simp; omega
  have y2 : (Y2.size : Int) ≤ 100 := by rw [hY2]; show (((baseL 8 n).toArray.size : Nat) : Int) ≤ 100; simp; omega
  rw [← hX0] at f10 hB0
  rw [← hY1] at f16 hB1
  rw [← hY2] at f8 hB2
  have F10 := Lib.hid f10
  have F16 := Lib.hid f16
  have F8 := Lib.hid f8
  have H0 := Lib.hid hB0
  have H1 := Lib.hid hB1
  have H2 := Lib.hid hB2
  clear f10 f16 f8 hB0 hB1 hB2 hX0 hY1 hY2 z0 z1 z2 hr
  go_enter Tryd.func9, Tryd.ntmps9
  go_wp2_with fail
  refine (H0.out _).mono ?_
  rintro e w1 ⟨rfl, hb1⟩
  go_wp2_with fail
  refine (H1.out _).mono ?_
  rintro e w2 ⟨rfl, hb2⟩
  go_wp2_with fail
  refine (H2.out _).mono ?_
  rintro e w3 ⟨rfl, hb3⟩
  have hb13 := hb2.trans (hb3.mono hb2.size)
  have hw3 := Lib.hid (hb1.trans (hb13.mono hb1.size))
  clear hb1 hb2 hb3 hb13
  go_wp2_with fail
  have hcell : ∀ k, k < 3 → ∃ X : ByteArray, (w3.alloc (.cells #[.string X0, .string (⟨#[48, 120]⟩ ++ Y1), .string (⟨#[48]⟩ ++ Y2)] 9)).cell? ⟨w3.heap.size, k, none⟩ = some (.string X) ∧ Forms X n ∧ (X.size : Int) ≤ 200 := by
    intro k hk
    match k, hk with
    | 0, _ => exact ⟨X0, by simp, F10.out, by omega⟩
    | 1, _ => exact ⟨_, by simp, F16.out, by rw [ByteArray.size_append]; show ((2 + Y1.size : Nat) : Int) ≤ 200; omega⟩
    | 2, _ => exact ⟨_, by simp, F8.out, by rw [ByteArray.size_append]; show ((1 + Y2.size : Nat) : Int) ≤ 200; omega⟩
  have HCL := Lib.hid hcell
  clear hcell
  have hrdy3 := Lib.hid (HR.out.below (hw3.out.alloc hw3.out.size (.cells #[.string X0, .string (⟨#[48, 120]⟩ ++ Y1), .string (⟨#[48]⟩ ++ Y2)] 9)))
  have hbel3 := Lib.hid (hw3.out.alloc hw3.out.size (.cells #[.string X0, .string (⟨#[48, 120]⟩ ++ Y1), .string (⟨#[48]⟩ ++ Y2)] 9))
  go_loopw [4] (fun i wr => ∃ k : Nat, k ≤ 3 ∧ i = .int .i64 k ∧ Hid (∀ k, k < 3 → ∃ X : ByteArray, wr.cell? ⟨w3.heap.size, k, none⟩ = some (.string X) ∧ Forms X n ∧ (X.size : Int) ≤ 200) ∧ Hid (Rdy wr) ∧ Hid (Below w.heap.size w wr) ∧ w3.heap.size < wr.heap.size) (fun i _ => 3 - (intOf i).toNat)
  case atStart => exact ⟨0, by omega, rfl, HCL, hrdy3, hbel3, by rw [World.size_alloc]; omega⟩
  case round =>
    clear HCL hrdy3 hbel3 F10 F16 F8 H0 H1 H2
    obtain ⟨k, hk, rfl, hcl, hrd, hbw, hsz⟩ := hrel
    by_cases hlt : k < 3
    · obtain ⟨X, hX, ⟨⟨ts, hf1, hf2⟩, ⟨us, hg1, hg2⟩⟩, hXs⟩ := hcl.out k hlt
      have hO1 := one_any X ts n _ wr hrd.out hf1 hf2
      have hO2 := fun w' (hr : Rdy w') => one_any (X ++ ⟨#[117]⟩) us n true w' hr (by rw [append_data]; exact hg1) hg2
      have O1 := Lib.hid hO1
      have O2 := Lib.hid hO2
      clear hf1 hf2 hg1 hg2 hO1 hO2
      have hcase : ∃ Bg : Bool, decide (2147483647 < n) = Bg ∧ ((Bg = true ∧ (2147483647 : Int) < n) ∨ (Bg = false ∧ ¬ (2147483647 : Int) < n)) := by
        by_cases h : 2147483647 < n
        · exact ⟨true, decide_eq_true h, .inl ⟨rfl, by omega⟩⟩
        · exact ⟨false, decide_eq_false h, .inr ⟨rfl, by omega⟩⟩
      obtain ⟨Bg, hBg, hcase⟩ := hcase
      rw [hBg] at O1
      clear hBg
      have i0 : (0 : Int) ≤ k := by omega
      have i1 : (k : Int) < 3 := by omega
      have nn : ((n : Int) != (n : Int)) = false := by simp
      rcases hcase with ⟨rfl, hbig⟩ | ⟨rfl, hbig⟩
      all_goals
        go_wp2_with fail
        refine O1.out.mono ?_
        rintro e wa ⟨rfl, hba⟩
        have hXa := (hba.cell (p := ⟨w3.heap.size, k, none⟩) hsz).trans hX
        have hra := Lib.hid (hrd.out.below hba)
        have hsa := hba.size
        have HBA := Lib.hid hba
        clear hba hX
        go_wp2_with fail
        refine (O2.out _ hra.out).mono ?_
        rintro e wb ⟨rfl, hbb⟩
        have hrb := Lib.hid (hra.out.below hbb)
        have hab := Lib.hid (HBA.out.trans (hbb.mono hsa))
        have hsb := hbb.size
        clear hbb
        go_wp2
        go_roundw
        case rel =>
          refine ⟨k + 1, by omega, by go_num, Lib.hid ?_, hrb, Lib.hid (hbw.out.trans (hab.out.mono hbw.out.size)), by omega⟩
          intro j hj
          obtain ⟨Z, hZ, h1, h2⟩ := hcl.out j hj
          exact ⟨Z, (hab.out.cell (p := ⟨w3.heap.size, j, none⟩) hsz).trans hZ, h1, h2⟩
        case measure => simp [intOf]; omega
    · have hkk : k = 3 := by omega
      subst hkk
      clear hcl
      go_wp2_with (go_at_call 14; refine (HV.out _ hrd.out).mono ?_; rintro e w4 ⟨rfl, hb4⟩)
      go_ret
      exact ⟨rfl, hbw.out.trans (hb4.mono hbw.out.size)⟩
end Go.Proofs.YtmpahpnacpfhoaaDoor
