/- internal/strconv.ParseUint at the bases 8, 10 and 16 and 32 bits: the number, or an error. The text is at most 20000 bytes. -/
import Derived.Test.YtmpahpnacpfhoaaDoorA
import Derived.Lib.ConvBytes
import Derived.Lib.AtoiErrMem
import Derived.Laws.Closers25
import Derived.Laws.Closers25b
import Derived.BigCall
import Derived.BigGuard
import Derived.WalkSmall
namespace Go.Proofs.YtmpahpnacpfhoaaDoor
open Go.RowKit

theorem lower_fin : ∀ n : Fin 256, bits .or .u8 (n.val : Int) 32 = ((n.val ||| 32 : Nat) : Int) := by decide +kernel
theorem or_fin : ∀ n : Fin 256, (65 ≤ n.val ∧ n.val ≤ 90 → (n.val ||| 32) = n.val + 32) ∧ (97 ≤ n.val ∧ n.val ≤ 122 → (n.val ||| 32) = n.val) ∧ (¬ (65 ≤ n.val ∧ n.val ≤ 90) → ¬ (97 ≤ n.val ∧ n.val ≤ 122) → ¬ (97 ≤ (n.val ||| 32) ∧ (n.val ||| 32) ≤ 122)) := by decide +kernel

/-- internal/strconv.lower, by a name for its result. -/
theorem lower_any (c : UInt8) : ∃ v : Int, (0 ≤ v ∧ v ≤ 255) ∧ (65 ≤ c.toNat ∧ c.toNat ≤ 90 → v = c.toNat + 32) ∧ (97 ≤ c.toNat ∧ c.toNat ≤ 122 → v = c.toNat) ∧ (¬ (65 ≤ c.toNat ∧ c.toNat ≤ 90) → ¬ (97 ≤ c.toNat ∧ c.toNat ≤ 122) → ¬ (97 ≤ v ∧ v ≤ 122)) ∧
    ∀ w, Calls Tryd.prog 62 #[.int .u8 (c.toNat : Int)] w fun e w' => e = .returned (.int .u8 v) ∧ w = w' := by
  have hc : c.toNat < 256 := c.toNat_lt
  have h1 := lower_fin ⟨c.toNat, hc⟩
  obtain ⟨h2, h3, h4⟩ := or_fin ⟨c.toNat, hc⟩
  simp only at h1 h2 h3 h4
  have hlo := bits_lo_u8 .or (c.toNat : Int) 32
  have hhi := bits_hi_u8 .or (c.toNat : Int) 32
  refine ⟨bits .or .u8 (c.toNat : Int) 32, ⟨hlo, hhi⟩, ?_, ?_, ?_, fun w => (Tryd.internal_strconv_lower _ w).mono fun _ _ ⟨a, b⟩ => ⟨a, b.symm⟩⟩
  · intro h; rw [h1, h2 h]; omega
  · intro h; rw [h1, h3 h]
  · intro h h'; rw [h1]; have := h4 h h'; omega

theorem lower_95 : ∃ u : Int, (122 < u ∧ u ≤ 255) ∧ ∀ w, Calls Tryd.prog 62 #[.int .u8 95] w fun e w' => e = .returned (.int .u8 u) ∧ w = w' :=
  ⟨bits .or .u8 95 32, ⟨by decide +kernel, bits_hi_u8 .or 95 32⟩, fun w => (Tryd.internal_strconv_lower 95 w).mono fun _ _ ⟨a, b⟩ => ⟨a, b.symm⟩⟩

def PuEnd (base : Nat) (l : Bs) (e : Ending) : Prop :=
  (∃ n : Nat, parseAll base l = some n ∧ e = .returned (.tuple #[.int .u64 n, .nilIface])) ∨
  (parseAll base l = none ∧ ∃ x k : Int, (k = 1 ∨ k = 2) ∧ e = .returned (.tuple #[.int .u64 x, .iface 72 (.int .i64 k)]))
theorem PuEnd.ok {base : Nat} {l : Bs} {n : Nat} {e : Ending} (h : parseAll base l = some n) (he : e = .returned (.tuple #[.int .u64 n, .nilIface])) : PuEnd base l e := .inl ⟨n, h, he⟩
theorem PuEnd.no {base : Nat} {l : Bs} {x k : Int} {e : Ending} (h : parseAll base l = none) (hk : k = 1 ∨ k = 2) (he : e = .returned (.tuple #[.int .u64 x, .iface 72 (.int .i64 k)])) : PuEnd base l e := .inr ⟨h, x, k, hk, he⟩

theorem digN_digit {c : UInt8} (h : 48 ≤ c.toNat ∧ c.toNat ≤ 57) : digN c = c.toNat - 48 := by unfold digN; rw [if_pos h]
theorem digN_low {c : UInt8} (h : 97 ≤ c.toNat ∧ c.toNat ≤ 122) : digN c = c.toNat - 97 + 10 := by unfold digN; rw [if_neg (by omega), if_pos h]
theorem digN_up {c : UInt8} (h : 65 ≤ c.toNat ∧ c.toNat ≤ 90) : digN c = c.toNat - 65 + 10 := by unfold digN; rw [if_neg (by omega), if_neg (by omega), if_pos h]
theorem digN_none {c : UInt8} (h1 : ¬ (48 ≤ c.toNat ∧ c.toNat ≤ 57)) (h2 : ¬ (97 ≤ c.toNat ∧ c.toNat ≤ 122)) (h3 : ¬ (65 ≤ c.toNat ∧ c.toNat ≤ 90)) : digN c = 99 := by
  unfold digN; rw [if_neg h1, if_neg h2, if_neg h3]

set_option maxHeartbeats 400000 in
set_option maxRecDepth 100000 in
theorem pu_empty (b : Int) (t : ByteArray) (ht : t.size = 0) (w : World) :
    Calls Tryd.prog 60 #[.string t, .int .i64 b, .int .i64 32] w fun e w' => e = .returned (.tuple #[.int .u64 0, .iface 72 (.int .i64 2)]) ∧ w = w' := by
  have hemp : t.toList.isEmpty = true := by
    rw [Lib.toList_data, List.isEmpty_iff, ← List.length_eq_zero_iff, ← Lib.size_eq]; exact ht
  have hemp2 : t.toList = [] := by
    rw [Lib.toList_data, ← List.length_eq_zero_iff, ← Lib.size_eq]; exact ht
  go_enter Tryd.func60, Tryd.ntmps60
  go_wp2
  go_ret2
  exact ⟨rfl, rfl⟩

set_option maxHeartbeats 4000000 in
set_option maxRecDepth 100000 in
theorem pu_10 (t : ByteArray) (hne : t.size ≠ 0) (hmax : t.size ≤ 20000) (w : World) :
    Calls Tryd.prog 60 #[.string t, .int .i64 10, .int .i64 32] w fun e w' => PuEnd 10 t.data.toList e ∧ Below w.heap.size w w' := by
  have hemp : t.toList.isEmpty = false := by
    rw [← decide_eq_emptyBytes]
    exact decide_eq_false (fun h => hne (by rw [h]; rfl))
  have hcv := Lib.run_convert_string_bytes (P := Tryd.prog) w 9 32 5 t Tryd.underlying9 Tryd.underlying32 Tryd.underlying5
  have hB : ∀ j, j < t.size → (Lib.bytesWorld w 5 t).cell? ⟨w.heap.size, j, none⟩ = some (.int .u8 (t.data.toList.getD j 0).toNat) := fun j hj => Lib.bytesWorld_cell w 5 t j hj
  have hW := Lib.hid (Lib.bytesWorld_below w 5 t)
  obtain ⟨W1, hW1⟩ : ∃ W1, W1 = Lib.bytesWorld w 5 t := ⟨_, rfl⟩
  rw [← hW1] at hcv hB hW
  clear hW1
  obtain ⟨bs, hL⟩ : ∃ bs, bs = t.data.toList := ⟨_, rfl⟩
  have hLn : bs.length = t.size := by rw [hL, Lib.size_eq]
  rw [← hL] at hB ⊢
  clear hL
  have hmv : IntKind.u64.wrap (IntKind.u64.wrap 4294967296 - 1) = 4294967295 := by
    rw [IntKind.wrap_u64, IntKind.wrap_u64]
    decide
  have hpa : Hid (parseAll 10 bs = parseU 10 0 bs) := Lib.hid (by unfold parseAll; rw [if_neg (fun h => hne (by rw [← hLn, h]; rfl))])
  go_enter Tryd.func60, Tryd.ntmps60
  go_wp2
  go_loop [12, 13, 101] (fun vu vn vi => ∃ (k acc : Nat) (a : Int), vu = .bool false ∧ vn = .int .u64 a ∧ vi = .int .i64 k ∧ k ≤ t.size ∧ Hid (a = (acc : Int) ∧ acc ≤ 4294967295 ∧ parseU 10 0 bs = parseU 10 acc (bs.drop k)))
    (fun _ _ vi => t.size - (intOf vi).toNat)
  case atStart => exact ⟨0, 0, 0, rfl, rfl, rfl, by omega, Lib.hid ⟨rfl, by omega, rfl⟩⟩
  case round =>
    obtain ⟨k, acc, a, rfl, rfl, rfl, hk, hh⟩ := hrel
    obtain ⟨ha, hacc, hdec⟩ := hh.out
    clear hh
    have a0 : 0 ≤ a := by omega
    have a1 : a ≤ 4294967295 := by omega
    by_cases hkn : k < t.size
    · have hc := hB k hkn
      have hdrop : bs.drop k = bs[k]'(by omega) :: bs.drop (k + 1) := List.drop_eq_getElem_cons (by omega)
      have hget : bs.getD k 0 = bs[k]'(by omega) := by simp [List.getD, List.getElem?_eq_getElem (show k < bs.length by omega)]
      rw [hdrop] at hdec
      rw [hget] at hc
      generalize bs[k]'(by omega) = c at hc hdec
      have hc256 : c.toNat < 256 := c.toNat_lt
      clear hB hdrop hget
      obtain ⟨v, hv01, hvU, hvL, hvN, hlow⟩ := lower_any c
      have HL := Lib.hid hlow
      clear hlow
      obtain ⟨hv0, hv1⟩ := hv01
      by_cases hdig : 48 ≤ c.toNat ∧ c.toNat ≤ 57
      · have hdn := digN_digit hdig
        obtain ⟨hd0, hd1⟩ := hdig
        clear hvU hvL hvN hv0 hv1 HL
        by_cases hlt : c.toNat - 48 < 10
        · by_cases hov : 4294967295 < acc * 10 + (c.toNat - 48)
          · have hF : parseU 10 acc (c :: bs.drop (k + 1)) = none := by rw [parseU, hdn, if_neg (by omega)]
            have HN := Lib.hid (hpa.out.trans (hdec.trans hF))
            have iov : 4294967295 < a * 10 + ((c.toNat : Int) - 48) := by omega
            have ilt : (c.toNat : Int) - 48 < 10 := by omega
            clear hacc hF hov ha hdec hdn
            go_wp2
            go_ret2
            exact ⟨PuEnd.no HN.out (Or.inl rfl) rfl, hW.out⟩
          · have hF : parseU 10 acc (c :: bs.drop (k + 1)) = parseU 10 (acc * 10 + (c.toNat - 48)) (bs.drop (k + 1)) := by rw [parseU, hdn, if_pos (by omega)]
            have HN : Hid (a * 10 + ((c.toNat : Int) - 48) = ((acc * 10 + (c.toNat - 48) : Nat) : Int) ∧ acc * 10 + (c.toNat - 48) ≤ 4294967295 ∧ parseU 10 0 bs = parseU 10 (acc * 10 + (c.toNat - 48)) (bs.drop (k + 1))) := Lib.hid ⟨by omega, by omega, hdec.trans hF⟩
            have iov : a * 10 + ((c.toNat : Int) - 48) ≤ 4294967295 := by omega
            have ilt : (c.toNat : Int) - 48 < 10 := by omega
            clear hacc hF hov hdec ha hdn
            go_wp2
            refine ⟨⟨k + 1, acc * 10 + (c.toNat - 48), a * 10 + ((c.toNat : Int) - 48), rfl, (by first | rfl | (congr 1; omega)), (by first | rfl | (congr 1; omega)), by omega, HN⟩, by simp [intOf]; omega⟩
        · have hF : parseU 10 acc (c :: bs.drop (k + 1)) = none := by rw [parseU, hdn, if_neg (by omega)]
          have HN := Lib.hid (hpa.out.trans (hdec.trans hF))
          first
            | (exfalso; omega)
            | (have ilt : 10 ≤ (c.toNat : Int) - 48 := by omega
               clear hacc hF ha hdec hdn
               go_wp2
               go_ret2
               exact ⟨PuEnd.no HN.out (Or.inr rfl) rfl, hW.out⟩)
      · by_cases hlet : 97 ≤ v ∧ v ≤ 122
        · have hdn : digN c = v.toNat - 97 + 10 := by
            by_cases hL : 97 ≤ c.toNat ∧ c.toNat ≤ 122
            · rw [digN_low hL, hvL hL]; omega
            · by_cases hU : 65 ≤ c.toNat ∧ c.toNat ≤ 90
              · rw [digN_up hU, hvU hU]; omega
              · exact absurd hlet (hvN hU hL)
          have hc95 : ¬ (c.toNat : Int) = 95 := by
            intro h
            exact absurd hlet (hvN (by omega) (by omega))
          have hd' : (c.toNat : Int) < 48 ∨ 57 < (c.toNat : Int) := by omega
          obtain ⟨hl0, hl1⟩ := hlet
          clear hvU hvL hvN hdig
          by_cases hlt : v.toNat - 97 + 10 < 10
          · by_cases hov : 4294967295 < acc * 10 + (v.toNat - 97 + 10)
            · have hF : parseU 10 acc (c :: bs.drop (k + 1)) = none := by rw [parseU, hdn, if_neg (by omega)]
              have HN := Lib.hid (hpa.out.trans (hdec.trans hF))
              have iov : 4294967295 < a * 10 + (v - 97 + 10) := by omega
              have ilt : v - 97 + 10 < 10 := by omega
              clear hacc hF hov ha hdec hdn hlt
              go_wp2_with (go_at_call 62; refine (HL.out _).mono ?_; rintro e w' ⟨rfl, rfl⟩)
              all_goals go_ret2
              all_goals exact ⟨PuEnd.no HN.out (Or.inl rfl) rfl, hW.out⟩
            · have hF : parseU 10 acc (c :: bs.drop (k + 1)) = parseU 10 (acc * 10 + (v.toNat - 97 + 10)) (bs.drop (k + 1)) := by rw [parseU, hdn, if_pos (by omega)]
              have HN : Hid (a * 10 + (v - 97 + 10) = ((acc * 10 + (v.toNat - 97 + 10) : Nat) : Int) ∧ acc * 10 + (v.toNat - 97 + 10) ≤ 4294967295 ∧ parseU 10 0 bs = parseU 10 (acc * 10 + (v.toNat - 97 + 10)) (bs.drop (k + 1))) := Lib.hid ⟨by omega, by omega, hdec.trans hF⟩
              have iov : a * 10 + (v - 97 + 10) ≤ 4294967295 := by omega
              have ilt : v - 97 + 10 < 10 := by omega
              clear hacc hF hov hdec ha hdn hlt
              go_wp2_with (go_at_call 62; refine (HL.out _).mono ?_; rintro e w' ⟨rfl, rfl⟩)
              all_goals refine ⟨⟨k + 1, acc * 10 + (v.toNat - 97 + 10), a * 10 + (v - 97 + 10), rfl, (by first | rfl | (congr 1; omega)), (by first | rfl | (congr 1; omega)), by omega, HN⟩, by simp [intOf]; omega⟩
          · have hF : parseU 10 acc (c :: bs.drop (k + 1)) = none := by rw [parseU, hdn, if_neg (by omega)]
            have HN := Lib.hid (hpa.out.trans (hdec.trans hF))
            have ilt : ¬ v - 97 + 10 < 10 := by omega
            clear hacc hF ha hdec hdn hlt
            go_wp2_with (go_at_call 62; refine (HL.out _).mono ?_; rintro e w' ⟨rfl, rfl⟩)
            all_goals go_ret2
            all_goals exact ⟨PuEnd.no HN.out (Or.inr rfl) rfl, hW.out⟩
        · have hdn : digN c = 99 := digN_none hdig (fun h => hlet (by rw [hvL h]; omega)) (fun h => hlet (by rw [hvU h]; omega))
          have hF : parseU 10 acc (c :: bs.drop (k + 1)) = none := by rw [parseU, hdn, if_neg (by omega)]
          have HN := Lib.hid (hpa.out.trans (hdec.trans hF))
          clear hacc hF ha hdec hdn hvU hvL hvN
          obtain ⟨u, ⟨hu0, hu1⟩, hu⟩ := lower_95
          have HU := Lib.hid hu
          clear hu
          go_wp2_with (first | (go_at_call 62; with_reducible refine (HL.out _).mono ?_; rintro e w' ⟨rfl, rfl⟩) | (go_at_call 62; with_reducible refine (HU.out _).mono ?_; rintro e w' ⟨rfl, rfl⟩))
          all_goals go_ret2
          all_goals exact ⟨PuEnd.no HN.out (Or.inr rfl) rfl, hW.out⟩
    · have hkk : k = t.size := by omega
      subst hkk
      have hF : parseU 10 acc (bs.drop t.size) = some acc := by rw [List.drop_eq_nil_of_le (by omega)]; rfl
      have HN := Lib.hid (hpa.out.trans (hdec.trans hF))
      subst ha
      clear hacc hF a0 a1 hdec
      go_wp2
      go_ret2
      exact ⟨PuEnd.ok HN.out rfl, hW.out⟩
end Go.Proofs.YtmpahpnacpfhoaaDoor
