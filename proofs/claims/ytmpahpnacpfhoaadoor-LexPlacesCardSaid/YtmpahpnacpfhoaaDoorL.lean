/- The law LexPlaces: walked, for every text. -/
import Derived.Test.YtmpahpnacpfhoaaDoorM
import Derived.Test.YtmpahpnacpfhoaaDoorPlP
namespace Go.Proofs.YtmpahpnacpfhoaaDoor
open Go.RowKit

set_option maxHeartbeats 4000000 in
set_option maxRecDepth 100000 in
theorem places_any (s : ByteArray) (w : World) (hr : Rdy w) : Calls Tryd.prog 4 #[.string s] w fun e w' => e = .returned (.bool true) ∧ Below w.heap.size w w' := by
  have hL := lex_any s w hr
  have hA := lexAll_answer s.data.toList
  have hlen := lexAll_len s.data.toList
  rw [← Lib.size_eq] at hA
  obtain ⟨⟨ts, p, er⟩, hR⟩ : ∃ R, R = lexAll s.data.toList := ⟨_, rfl⟩
  rw [← hR] at hL hA hlen
  simp only at hlen
  have HR := Lib.hid hr
  have HL := Lib.hid hL
  have HV := Lib.hid live_any
  clear hr hL hR
  rcases hA with ⟨h1, h2, h3⟩ | ⟨h1, h2, h3⟩
  · simp only at h1 h2 h3
    subst h1 h2
    obtain ⟨hp1, hp2, hp3⟩ := h3
    obtain ⟨N, hN⟩ : ∃ N, N = ts.length := ⟨_, rfl⟩
    obtain ⟨m, hM⟩ : ∃ m, m + 1 = N := ⟨N - 1, by omega⟩
    have hn4 : N ≤ 4000 := by omega
    have hn0 : 1 ≤ N := by omega
    have HN := Lib.hid hN
    have HM := Lib.hid hM
    have HP2 := Lib.hid hp2
    have HP3 := Lib.hid hp3
    clear hp1 hp2 hp3 hN hM hlen
    go_enter Tryd.func4, Tryd.ntmps4
    go_wp2_with fail
    refine HL.out.mono ?_
    rintro e w1 ⟨v, rfl, hT, hb⟩
    simp only at hT
    rcases hT.toks with ⟨h, _⟩ | ⟨g, cap, rfl, hg, hcap, hgl, _, hc⟩
    · rw [h] at HN; have := HN.out; simp at this; omega
    · rw [← HN.out] at hcap ⊢
      have HC := Lib.hid hc
      clear hc hT
      simp only [Int.natCast_zero]
      go_wp2
      go_loopw [6] (fun i wr => ∃ k : Nat, k ≤ N ∧ i = .int .i64 k ∧ Below w1.heap.size w1 wr) (fun i _ => N - (intOf i).toNat)
      case atStart => exact ⟨0, Nat.zero_le _, rfl, Below.refl _ _⟩
      case round =>
        obtain ⟨k, hk, rfl, hbw⟩ := hrel
        by_cases hlt : k < N
        · obtain ⟨t, ht⟩ : ∃ t, ts[k]? = some t := ⟨_, List.getElem?_eq_getElem (by rw [← HN.out]; exact hlt)⟩
          obtain ⟨hk0, hk1⟩ := HP2.out k t ht
          rw [← HN.out, ← HM.out] at hk0 hk1
          have hca := fun j v (h : w1.cell? ⟨g, j, none⟩ = some v) => (hbw.cell (p := ⟨g, j, none⟩) hgl).trans h
          obtain ⟨a0, a1, -, -, -⟩ := HC.out k t ht
          have c0 := hca _ _ a0
          have c1 := hca _ _ a1
          have hpv : ∀ j, k = j + 1 → ∃ u : PTok, u.2 < t.2 ∧ wr.cell? ⟨g, j * 5 + 1, none⟩ = some (.int .i64 u.2) := by
            intro j hj
            subst hj
            obtain ⟨u, hu⟩ : ∃ u, ts[j]? = some u := ⟨_, List.getElem?_eq_getElem (by have := (List.getElem?_eq_some_iff.1 ht).1; omega)⟩
            obtain ⟨-, b1, -, -, -⟩ := HC.out j u hu
            exact ⟨u, HP3.out j u t hu ht, hca _ _ b1⟩
          have HPV := Lib.hid hpv
          obtain ⟨K, hK⟩ : ∃ K : Int, (t.1.kind : Int) = K := ⟨_, rfl⟩
          obtain ⟨A, hA⟩ : ∃ A : Int, (t.2 : Int) = A := ⟨_, rfl⟩
          have hA0 : 0 ≤ A := by omega
          rw [hK] at c0
          rw [hA] at c1
          have hKm : (K == 0) = ((k : Int) == (m : Int)) := by
            rw [Bool.eq_iff_iff, beq_iff_eq, beq_iff_eq]
            constructor
            · intro h; have := hk0.1 (by omega); omega
            · intro h; have := hk0.2 (by omega); omega
          have HKm := Lib.hid hKm
          have HA := Lib.hid hA
          clear a0 a1 hca hpv hk0 hk1 ht hK hA hKm
          have i0 : (0 : Int) ≤ k := by omega
          have i1 : (k : Int) < N := by omega
          have j0 : (0 : Int) ≤ m := by omega
          have wN : Hid (IntKind.i64.wrap ((N : Int) - 1) = m) := Lib.hid (by rw [IntKind.wrap_i64]; have := HM.out; omega)
          cases hkm : ((k : Int) == (m : Int)) with
          | true =>
            have b1 : (K == 0) = true := HKm.out.trans hkm
            by_cases hz : k = 0
            · subst hz
              have z1 : ((0 : Int) == (m : Int)) = true := hkm
              go_wp2
              have wN' := wN.out
              go_quiet (fail)
              clear wN'
              go_wp2
              go_roundw
              case rel => exact ⟨0 + 1, by omega, by go_num, below_drewN hbw _⟩
              case measure => simp [intOf]; omega
            · obtain ⟨p, hp⟩ : ∃ p, k = p + 1 := ⟨k - 1, by omega⟩
              obtain ⟨u, hu, d1⟩ := HPV.out p hp
              have hlu : ¬ A ≤ (u.2 : Int) := by have := HA.out; omega
              have k0 : (0 : Int) < k := by omega
              have k1 : 0 < k := by omega
              have p0 : (0 : Int) ≤ p := by omega
              have p1 : (p : Int) < N := by omega
              have wK : Hid (IntKind.i64.wrap ((k : Int) - 1) = p) := Lib.hid (by rw [IntKind.wrap_i64]; omega)
              have HP := Lib.hid hp
              clear HPV hu hp
              go_wp2
              have wN' := wN.out
              have wK' := wK.out
              go_quiet (fail)
              clear wN' wK'
              go_wp2
              go_roundw
              case rel => exact ⟨k + 1, by omega, by go_num, below_drewN hbw _⟩
              case measure => simp [intOf]; omega
          | false =>
            have b1 : (K == 0) = false := HKm.out.trans hkm
            by_cases hz : k = 0
            · subst hz
              have z1 : ((0 : Int) == (m : Int)) = false := hkm
              go_wp2
              have wN' := wN.out
              go_quiet (fail)
              clear wN'
              go_wp2
              go_roundw
              case rel => exact ⟨0 + 1, by omega, by go_num, below_drewN hbw _⟩
              case measure => simp [intOf]; omega
            · obtain ⟨p, hp⟩ : ∃ p, k = p + 1 := ⟨k - 1, by omega⟩
              obtain ⟨u, hu, d1⟩ := HPV.out p hp
              have hlu : ¬ A ≤ (u.2 : Int) := by have := HA.out; omega
              have k0 : (0 : Int) < k := by omega
              have k1 : 0 < k := by omega
              have p0 : (0 : Int) ≤ p := by omega
              have p1 : (p : Int) < N := by omega
              have wK : Hid (IntKind.i64.wrap ((k : Int) - 1) = p) := Lib.hid (by rw [IntKind.wrap_i64]; omega)
              have HP := Lib.hid hp
              clear HPV hu hp
              go_wp2
              have wN' := wN.out
              have wK' := wK.out
              go_quiet (fail)
              clear wN' wK'
              go_wp2
              go_roundw
              case rel => exact ⟨k + 1, by omega, by go_num, below_drewN hbw _⟩
              case measure => simp [intOf]; omega
        · have hkk : k = N := by omega
          subst hkk
          obtain ⟨t, ht⟩ : ∃ t, ts[m]? = some t := ⟨_, List.getElem?_eq_getElem (by rw [← HN.out, ← HM.out]; omega)⟩
          have h2 := (HP2.out m t ht).2 (by rw [HM.out, HN.out])
          obtain ⟨-, a1, -, -, -⟩ := HC.out m t ht
          rw [h2] at a1
          have c1 := (hbw.cell (p := ⟨g, m * 5 + 1, none⟩) hgl).trans a1
          rw [show m = k - 1 by have := HM.out; omega] at c1
          have hr1 := Lib.hid ((HR.out.below hb).below hbw)
          clear a1 h2 ht
          go_wp2_with (go_at_call 14; refine (HV.out _ hr1.out).mono ?_; rintro e w2 ⟨rfl, hb2⟩)
          go_ret
          exact ⟨rfl, (hb.trans (hbw.mono hb.size)).trans (hb2.mono (Nat.le_trans hb.size hbw.size))⟩
  · simp only at h1 h2 h3
    subst h2
    have e1 : ((er : Int) != 0) = true := by rw [bne_iff_ne]; omega
    have h4 : (0 : Int) ≤ p := by omega
    have h5 : (p : Int) ≤ s.size := by omega
    clear h1 h3
    go_enter Tryd.func4, Tryd.ntmps4
    go_wp2_with fail
    refine HL.out.mono ?_
    rintro e w1 ⟨v, rfl, hT, hb⟩
    simp only at hT
    rcases hT.toks with ⟨_, ao, cv, rfl⟩ | ⟨g, cap, rfl, hg, hcap, hgl, h, _⟩
    · have hr1 := Lib.hid (HR.out.below hb)
      clear hT
      go_wp2_with (go_at_call 14; refine (HV.out _ hr1.out).mono ?_; rintro e w2 ⟨rfl, hb2⟩)
      go_ret
      exact ⟨rfl, hb.trans (hb2.mono hb.size)⟩
    · exact absurd rfl h
end Go.Proofs.YtmpahpnacpfhoaaDoor
