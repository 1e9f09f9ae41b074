/- The functions of the law LexNumbers: a number written in a base, and the number of a source that is one number. -/
import Derived.Test.YtmpahpnacpfhoaaDoorN
import Derived.Test.YtmpahpnacpfhoaaDoorPlN
namespace Go.Proofs.YtmpahpnacpfhoaaDoor
open Go.RowKit

def preL (b m : Nat) : Bs := if m < b then [] else baseL b (m / b)
theorem pre_base {b m : Nat} (hb : 2 ≤ b) : baseL b m = preL b m ++ [dchr (m % b)] := by
  unfold preL
  by_cases h : m < b
  · rw [if_pos h, baseL_lt h, Nat.mod_eq_of_lt h]; rfl
  · rw [if_neg h, baseL_ge hb h]

set_option maxHeartbeats 1000000 in
theorem one_any (s : ByteArray) (ts : List PTok) (v : Nat) (u : Bool) (w : World) (hr : Rdy w) (h1 : lexAll s.data.toList = (ts, 0, 0)) (h2 : ts.map (·.1) = [⟨2, [], v, u⟩, endTok]) :
    Calls Tryd.prog 17 #[.string s] w fun e w' => e = .returned (.tuple #[.int .u32 v, .bool u, .bool true]) ∧ Below w.heap.size w w' := by
  have hL := lex_any s w hr
  rw [h1] at hL
  have HL := Lib.hid hL
  obtain ⟨a, b, hts⟩ : ∃ a b, ts = [(⟨2, [], v, u⟩, a), (endTok, b)] := by
    match ts, h2 with
    | [(t, a), (t', b)], h2 =>
      simp only [List.map_cons, List.map_nil, List.cons.injEq, and_true] at h2
      exact ⟨a, b, by rw [h2.1, h2.2]⟩
  subst hts
  clear hL h1 h2 hr
  go_enter Tryd.func17, Tryd.ntmps17
  go_wp2_with fail
  refine HL.out.mono ?_
  rintro e w1 ⟨x, rfl, hT, hb⟩
  rcases hT.toks with ⟨h, _⟩ | ⟨g, cap, rfl, hg, hcap, hgl, _, hc⟩
  · simp at h
  · obtain ⟨c0, _, _, c3, c4⟩ := hc 0 _ rfl
    clear hc hT
    simp only [Nat.zero_mul, Nat.zero_add] at c0 c3 c4
    go_wp2
    go_quiet (fail)
    go_wp2
    go_ret3
    exact ⟨rfl, below_drewN hb _⟩

theorem digits_at : ∀ d : Fin 16, (⟨#[48, 49, 50, 51, 52, 53, 54, 55, 56, 57, 97, 98, 99, 100, 101, 102]⟩ : ByteArray)[d.val]'(d.isLt) = dchr d.val := by decide +kernel

theorem baseL_len {b : Nat} (hb : 2 ≤ b) : ∀ n, (baseL b n).length ≤ n + 1 := by
  refine baseL_ind hb (fun n l => l.length ≤ n + 1) (fun n _ => by simp) ?_
  intro n l h hl
  have : n / b < n := Nat.div_lt_self (by omega) (by omega)
  simp only [List.length_append, List.length_cons, List.length_nil]
  omega
theorem digits_nat (d : Nat) (h : d < 16) : (⟨#[48, 49, 50, 51, 52, 53, 54, 55, 56, 57, 97, 98, 99, 100, 101, 102]⟩ : ByteArray)[d]'h = dchr d := digits_at ⟨d, h⟩

set_option maxHeartbeats 2000000 in
set_option maxRecDepth 100000 in
theorem based_any (n b : Nat) (w : World) (hb : 2 ≤ b) (hb2 : b ≤ 16) (hn : n ≤ 4294967295) :
    Calls Tryd.prog 16 #[.int .u32 n, .int .u32 b] w fun e w' => e = .returned (.string ⟨(baseL b n).toArray⟩) ∧ Below w.heap.size w w' := by
  have i1 : (1 : Int) ≤ b := by omega
  have i2 : (0 : Int) ≤ b := by omega
  have i3 : (b : Int) ≤ 16 := by omega
  have m0 : (0 : Int) ≤ (n : Int) % b := Int.emod_nonneg _ (by omega)
  have m1 : (n : Int) % b < 16 := by have := Int.emod_lt_of_pos (n : Int) (show (0 : Int) < b by omega); omega
  have hcv := conv_byte
  go_enter Tryd.func16, Tryd.ntmps16
  go_wp2
  go_loopw [0, 6] (fun x y wr => ∃ (m : Nat) (X : ByteArray), m ≤ n ∧ x = .int .u32 m ∧ y = .string X ∧ Hid (preL b m ++ X.data.toList = baseL b n) ∧ Below w.heap.size w wr) (fun x _ _ => (intOf x).toNat)
  case atStart =>
    exact ⟨n, ⟨#[dchr (n % b)]⟩, Nat.le_refl _, rfl, by rw [digits_nat (n % b) (by have := Nat.mod_lt n (show 0 < b by omega); omega)], Lib.hid (pre_base hb).symm, below_one _ _⟩
  case round =>
    obtain ⟨m, X, hmn, rfl, rfl, hX, hbw⟩ := hrel
    by_cases hlt : m < b
    · have hlt' : ¬ (b : Int) ≤ m := by omega
      have hXe := hX.out
      unfold preL at hXe
      rw [if_pos hlt, List.nil_append] at hXe
      have HX := Lib.hid hXe
      clear hXe hX hcv
      go_wp2
      go_ret
      exact ⟨by rw [← HX.out]; rfl, hbw⟩
    · have hlt' : (b : Int) ≤ m := by omega
      have d0 : (0 : Int) ≤ (m : Int) / b := Int.ediv_nonneg (by omega) (by omega)
      have d1 : (m : Int) / b ≤ 4294967295 := by have := Int.ediv_le_self (a := (m : Int)) (b : Int) (by omega); omega
      have e0 : (0 : Int) ≤ (m : Int) / b % b := Int.emod_nonneg _ (by omega)
      have e1 : (m : Int) / b % b < 16 := by have := Int.emod_lt_of_pos ((m : Int) / b) (show (0 : Int) < b by omega); omega
      have hXs : (X.size : Int) ≤ 4294967296 := by
        have h1 := congrArg List.length hX.out
        have h2 := baseL_len hb n
        rw [List.length_append, ← Lib.size_eq] at h1
        omega
      have hpre : preL b m ++ X.data.toList = preL b (m / b) ++ (dchr (m / b % b) :: X.data.toList) := by
        have : preL b m = baseL b (m / b) := by unfold preL; rw [if_neg hlt]
        rw [this, pre_base hb]; simp
      have HP := Lib.hid (hpre.symm.trans hX.out)
      clear hpre hX
      have hmod : m / b % b < 16 := by have := Nat.mod_lt (m / b) (show 0 < b by omega); omega
      go_wp2
      refine ⟨⟨m / b, ⟨#[dchr (m / b % b)]⟩ ++ X, ?_, rfl, by rw [digits_nat (m / b % b) hmod], Lib.hid ?_, ?_⟩, ?_⟩
      · have := Nat.div_le_self m b; omega
      · rw [append_data]; exact HP.out
      · exact hbw.alloc hbw.size _
      · have := Nat.div_lt_self (n := m) (k := b) (by omega) (by omega)
        show ((m : Int) / b).toNat < (m : Int).toNat
        have e : ((m : Int) / b) = ((m / b : Nat) : Int) := rfl
        rw [e]; omega
end Go.Proofs.YtmpahpnacpfhoaaDoor
