/- emu.mayBe: may an image be run? No condition. -/
import Derived.Test.YtopceggmdieppaaDoorHA
namespace Go.Proofs.YtopceggmdieppaaDoor.Emu
open Go.RowKit Go.Proofs.YtopceggmdieppaaDoor.Enc Go.Proofs.YtopceggmdieppaaDoor.Graph

/-- What mayBe asks ahead of the kinds. -/
def mayS (m : Image) : Bool := decide (1 ≤ m.words.length ∧ m.words.length ≤ 65536 ∧ m.kinds.length = m.words.length ∧ m.data.length ≤ 524288 ∧ 0 ≤ m.entry ∧ m.entry < m.words.length)
def mayK (l : List Int) : Bool := l.all fun k => decide (1 ≤ k ∧ k ≤ 3)
theorem mayI_eq (m : Image) : mayI m = (mayS m && mayK m.kinds) := rfl
theorem all_false {l : List Int} {k : Nat} {x : Int} (h : l[k]? = some x) (hx : ¬ (1 ≤ x ∧ x ≤ 3)) : mayK l = false := by
  unfold mayK
  rw [List.all_eq_false]
  exact ⟨x, List.mem_of_getElem? h, by simpa using hx⟩
theorem all_true {l : List Int} (h : ∀ k x, k < l.length → l[k]? = some x → 1 ≤ x ∧ x ≤ 3) : mayK l = true := by
  unfold mayK
  rw [List.all_eq_true]
  intro x hx
  obtain ⟨k, hk⟩ := List.mem_iff_getElem?.1 hx
  have := h k x (List.getElem?_eq_some_iff.1 hk).1 hk
  simpa using this
set_option maxHeartbeats 4000000 in
set_option maxRecDepth 100000 in
theorem mayBe_prog (w : World) (m : Image) (vw vk vd : Value) (h : ImgR w m vw vk vd) (_hs : SmI m) :
    Calls Tryd.prog 41 #[.agg #[vw, vk, vd, .int .i64 m.entry]] w fun e w2 => e = .returned (.bool (mayI m)) ∧ Below w.heap.size w w2 := by
  obtain ⟨wp, wc, rfl⟩ := SlR.form h.words
  obtain ⟨kp, kc, rfl⟩ := SlR.form h.kinds
  obtain ⟨dp, dc, rfl⟩ := SlR.form h.data
  have HH := Lib.hid h
  rw [mayI_eq]
  cases hS : mayS m with
  | false =>
    have hn := of_decide_eq_false hS
    clear h _hs HH hS
    simp only [Bool.false_and]
    generalize m.words.length = n at *
    generalize m.kinds.length = kn at *
    generalize m.data.length = dn at *
    generalize m.entry = en at *
    by_cases h0 : n = 0
    · have q0 : ((n : Int) == 0) = true := by simp [h0]
      clear hn h0
      go_enter Tryd.func41, Tryd.ntmps41
      go_wp2
      go_ret
      exact ⟨rfl, below_one _ _⟩
    have q0 : ((n : Int) == 0) = false := by simp [h0]
    by_cases h1 : 65536 < n
    · have q1 : decide ((65536 : Int) < n) = true := decide_eq_true (by omega)
      clear hn h1 h0
      go_enter Tryd.func41, Tryd.ntmps41
      go_wp2
      go_ret
      exact ⟨rfl, below_one _ _⟩
    have q1 : decide ((65536 : Int) < n) = false := decide_eq_false (by omega)
    by_cases h2 : kn = n
    · have q2 : ((kn : Int) != n) = false := by simp [h2]
      by_cases h3 : 524288 < dn
      · have q3 : decide ((524288 : Int) < dn) = true := decide_eq_true (by omega)
        clear hn h1 h0 h3
        subst h2
        go_enter Tryd.func41, Tryd.ntmps41
        go_wp2
        go_ret
        exact ⟨rfl, below_one _ _⟩
      have q3 : decide ((524288 : Int) < dn) = false := decide_eq_false (by omega)
      by_cases h4 : en < 0
      · have q4 : decide (en < 0) = true := decide_eq_true h4
        clear hn h1 h0 h3 h4
        subst h2
        go_enter Tryd.func41, Tryd.ntmps41
        go_wp2
        go_ret
        exact ⟨rfl, below_one _ _⟩
      have q4 : decide (en < 0) = false := decide_eq_false h4
      have q5 : decide ((n : Int) ≤ en) = true := decide_eq_true (by omega)
      clear hn h1 h0 h3 h4
      subst h2
      go_enter Tryd.func41, Tryd.ntmps41
      go_wp2
      go_ret
      exact ⟨rfl, below_one _ _⟩
    · have q2 : ((kn : Int) == n) = false := by simp; omega
      have q2' : ((kn : Int) != n) = true := by simp; omega
      clear hn h1 h0
      go_enter Tryd.func41, Tryd.ntmps41
      go_wp2
      go_ret
      exact ⟨rfl, below_one _ _⟩
  | true =>
    have hn := of_decide_eq_true hS
    obtain ⟨n1, n2, n3, n4, n5, n6⟩ := hn
    have HK := Lib.hid h.kinds
    clear h
    rw [n3] at HK
    simp only [Bool.true_and]
    obtain ⟨kb, ko, kc2, e, _, hkb, hkat⟩ := SlR.form2 HK.out (by omega)
    injection e with e1 e2 e3
    clear e2
    subst e1 e3
    have HKA := Lib.hid hkat
    clear hkat
    have q0 : ((m.words.length : Int) == 0) = false := beq_eq_false_iff_ne.2 (by omega)
    have q1 : decide ((65536 : Int) < m.words.length) = false := decide_eq_false (by omega)
    have q3 : decide ((524288 : Int) < m.data.length) = false := decide_eq_false (by omega)
    have q4 : decide (m.entry < 0) = false := decide_eq_false (by omega)
    have q5 : decide ((m.words.length : Int) ≤ m.entry) = false := decide_eq_false (by omega)
    rw [n3]
    have HN2 := Lib.hid n2
    clear n1 n2 n4 n5 n6 HH hS
    generalize m.words.length = n at *
    generalize m.data.length = dn at *
    generalize m.entry = en at *
    go_enter Tryd.func41, Tryd.ntmps41
    have HKL : Hid (m.kinds.length = n) := Lib.hid n3
    clear n3
    go_upto_region 4 with (fail)
    go_wp2
    go_loop [42] (fun i => ∃ k : Nat, i = .int .i64 k ∧ k ≤ n ∧ Hid (∀ j x, j < k → m.kinds[j]? = some x → 1 ≤ x ∧ x ≤ 3)) (fun i => n - (intOf i).toNat)
    case atStart => exact ⟨0, rfl, by omega, Lib.hid (fun j x hj _ => absurd hj (by omega))⟩
    case round =>
      obtain ⟨k, rfl, hk, HA⟩ := hrel
      by_cases hkn : k < n
      · obtain ⟨x, hx⟩ : ∃ x, m.kinds[k]? = some x := ⟨_, List.getElem?_eq_getElem (by rw [HKL.out]; exact hkn)⟩
        have cw := HKA.out k (by rw [HKL.out]; exact hkn) x hx
        rw [Nat.mul_one] at cw
        have hki : (k : Int) < n := by omega
        have h6 : IntKind.i64.wrap ((k : Int) + 1) = k + 1 := by have := HN2.out; rw [IntKind.wrap_i64]; omega
        by_cases hx1 : 1 ≤ x ∧ x ≤ 3
        · have HA2 := Lib.hid (show ∀ j y, j < k + 1 → m.kinds[j]? = some y → 1 ≤ y ∧ y ≤ 3 from fun j y hj hy => by
            by_cases e : j = k
            · subst e; rw [hx] at hy; injection hy with hy; subst hy; exact hx1
            · exact HA.out j y (by omega) hy)
          obtain ⟨x1, x2⟩ := hx1
          have r1 : decide (x < 1) = false := decide_eq_false (by omega)
          have r2 : decide (3 < x) = false := decide_eq_false (by omega)
          go_wp2
          go_round
          case rel => exact ⟨k + 1, by rw [show ((k + 1 : Nat) : Int) = (k : Int) + 1 by omega], by omega, HA2⟩
          case measure => simp [intOf]; omega
        · have HF := Lib.hid (all_false hx hx1)
          by_cases hx2 : x < 1
          · have r1 : decide (x < 1) = true := decide_eq_true hx2
            clear hx1
            go_wp2
            go_ret
            exact ⟨by rw [HF.out]; rfl, below_one _ _⟩
          · have r1 : decide (x < 1) = false := decide_eq_false hx2
            have r2 : decide (3 < x) = true := decide_eq_true (by omega)
            clear hx1
            go_wp2
            go_ret
            exact ⟨by rw [HF.out]; rfl, below_one _ _⟩
      · have hkk : k = n := by omega
        subst hkk
        have hki : ¬ ((k : Int) < k) := by omega
        have HT := Lib.hid (show mayK m.kinds = true from all_true (fun j x hj hx => HA.out j x (by rw [HKL.out] at hj; exact hj) hx))
        go_wp2
        go_ret
        exact ⟨by rw [HT.out]; rfl, below_one _ _⟩
end Go.Proofs.YtopceggmdieppaaDoor.Emu
namespace Go.Proofs.YtopceggmdieppaaDoor.Emu
open Go.RowKit Go.Proofs.YtopceggmdieppaaDoor.Enc Go.Proofs.YtopceggmdieppaaDoor.Graph

set_option maxHeartbeats 4000000 in
set_option maxRecDepth 100000 in
theorem rmay_any (w : World) (m : Image) (vw vk vd : Value) (h : ImgR w m vw vk vd) (_hs : SmI m) :
    Calls Tryd.prog 45 #[.agg #[vw, vk, vd, .int .i64 m.entry]] w fun e w2 => e = .returned (.bool (mayI m)) ∧ Below w.heap.size w w2 := by
  obtain ⟨wp, wc, rfl⟩ := SlR.form h.words
  obtain ⟨kp, kc, rfl⟩ := SlR.form h.kinds
  obtain ⟨dp, dc, rfl⟩ := SlR.form h.data
  have HH := Lib.hid h
  rw [mayI_eq]
  cases hS : mayS m with
  | false =>
    have hn := of_decide_eq_false hS
    clear h _hs HH hS
    simp only [Bool.false_and]
    generalize m.words.length = n at *
    generalize m.kinds.length = kn at *
    generalize m.data.length = dn at *
    generalize m.entry = en at *
    by_cases h0 : n = 0
    · have q0 : decide ((n : Int) < 1) = true := decide_eq_true (by omega)
      clear hn h0
      go_enter Tryd.func45, Tryd.ntmps45
      go_wp2
      go_ret
      exact ⟨rfl, below_one _ _⟩
    have q0 : decide ((n : Int) < 1) = false := decide_eq_false (by omega)
    by_cases h1 : 65536 < n
    · have q1 : decide ((65536 : Int) < n) = true := decide_eq_true (by omega)
      clear hn h1 h0
      go_enter Tryd.func45, Tryd.ntmps45
      go_wp2
      go_ret
      exact ⟨rfl, below_one _ _⟩
    have q1 : decide ((65536 : Int) < n) = false := decide_eq_false (by omega)
    by_cases h2 : kn = n
    · have q2 : ((kn : Int) != n) = false := by simp [h2]
      by_cases h3 : 524288 < dn
      · have q3 : decide ((524288 : Int) < dn) = true := decide_eq_true (by omega)
        clear hn h1 h0 h3
        subst h2
        go_enter Tryd.func45, Tryd.ntmps45
        go_wp2
        go_ret
        exact ⟨rfl, below_one _ _⟩
      have q3 : decide ((524288 : Int) < dn) = false := decide_eq_false (by omega)
      by_cases h4 : en < 0
      · have q4 : decide (en < 0) = true := decide_eq_true h4
        clear hn h1 h0 h3 h4
        subst h2
        go_enter Tryd.func45, Tryd.ntmps45
        go_wp2
        go_ret
        exact ⟨rfl, below_one _ _⟩
      have q4 : decide (en < 0) = false := decide_eq_false h4
      have q5 : decide ((n : Int) ≤ en) = true := decide_eq_true (by omega)
      clear hn h1 h0 h3 h4
      subst h2
      go_enter Tryd.func45, Tryd.ntmps45
      go_wp2
      go_ret
      exact ⟨rfl, below_one _ _⟩
    · have q2 : ((kn : Int) == n) = false := by simp; omega
      have q2' : ((kn : Int) != n) = true := by simp; omega
      clear hn h1 h0
      go_enter Tryd.func45, Tryd.ntmps45
      go_wp2
      go_ret
      exact ⟨rfl, below_one _ _⟩
  | true =>
    have hn := of_decide_eq_true hS
    obtain ⟨n1, n2, n3, n4, n5, n6⟩ := hn
    have HK := Lib.hid h.kinds
    clear h
    rw [n3] at HK
    simp only [Bool.true_and]
    obtain ⟨kb, ko, kc2, e, _, hkb, hkat⟩ := SlR.form2 HK.out (by omega)
    injection e with e1 e2 e3
    clear e2
    subst e1 e3
    have HKA := Lib.hid hkat
    clear hkat
    have q0 : decide ((m.words.length : Int) < 1) = false := decide_eq_false (by omega)
    have q1 : decide ((65536 : Int) < m.words.length) = false := decide_eq_false (by omega)
    have q3 : decide ((524288 : Int) < m.data.length) = false := decide_eq_false (by omega)
    have q4 : decide (m.entry < 0) = false := decide_eq_false (by omega)
    have q5 : decide ((m.words.length : Int) ≤ m.entry) = false := decide_eq_false (by omega)
    rw [n3]
    have HN2 := Lib.hid n2
    clear n1 n2 n4 n5 n6 HH hS
    generalize m.words.length = n at *
    generalize m.data.length = dn at *
    generalize m.entry = en at *
    go_enter Tryd.func45, Tryd.ntmps45
    have HKL : Hid (m.kinds.length = n) := Lib.hid n3
    clear n3
    go_wp2
    go_loop [3] (fun i => ∃ k : Nat, i = .int .i64 k ∧ k ≤ n ∧ Hid (∀ j x, j < k → m.kinds[j]? = some x → 1 ≤ x ∧ x ≤ 3)) (fun i => n - (intOf i).toNat)
    case atStart => exact ⟨0, rfl, by omega, Lib.hid (fun j x hj _ => absurd hj (by omega))⟩
    case round =>
      obtain ⟨k, rfl, hk, HA⟩ := hrel
      by_cases hkn : k < n
      · obtain ⟨x, hx⟩ : ∃ x, m.kinds[k]? = some x := ⟨_, List.getElem?_eq_getElem (by rw [HKL.out]; exact hkn)⟩
        have cw := HKA.out k (by rw [HKL.out]; exact hkn) x hx
        rw [Nat.mul_one] at cw
        have hki : (k : Int) < n := by omega
        have h6 : IntKind.i64.wrap ((k : Int) + 1) = k + 1 := by have := HN2.out; rw [IntKind.wrap_i64]; omega
        by_cases hx1 : 1 ≤ x ∧ x ≤ 3
        · have HA2 := Lib.hid (show ∀ j y, j < k + 1 → m.kinds[j]? = some y → 1 ≤ y ∧ y ≤ 3 from fun j y hj hy => by
            by_cases e : j = k
            · subst e; rw [hx] at hy; injection hy with hy; subst hy; exact hx1
            · exact HA.out j y (by omega) hy)
          obtain ⟨x1, x2⟩ := hx1
          have r1 : decide (x < 1) = false := decide_eq_false (by omega)
          have r2 : decide (3 < x) = false := decide_eq_false (by omega)
          go_wp2
          go_round
          case rel => exact ⟨k + 1, by rw [show ((k + 1 : Nat) : Int) = (k : Int) + 1 by omega], by omega, HA2⟩
          case measure => simp [intOf]; omega
        · have HF := Lib.hid (all_false hx hx1)
          by_cases hx2 : x < 1
          · have r1 : decide (x < 1) = true := decide_eq_true hx2
            clear hx1
            go_wp2
            go_ret
            exact ⟨by rw [HF.out]; rfl, below_one _ _⟩
          · have r1 : decide (x < 1) = false := decide_eq_false hx2
            have r2 : decide (3 < x) = true := decide_eq_true (by omega)
            clear hx1
            go_wp2
            go_ret
            exact ⟨by rw [HF.out]; rfl, below_one _ _⟩
      · have hkk : k = n := by omega
        subst hkk
        have hki : ¬ ((k : Int) < k) := by omega
        have HT := Lib.hid (show mayK m.kinds = true from all_true (fun j x hj hx => HA.out j x (by rw [HKL.out] at hj; exact hj) hx))
        go_wp2
        go_ret
        exact ⟨by rw [HT.out]; rfl, below_one _ _⟩
end Go.Proofs.YtopceggmdieppaaDoor.Emu
