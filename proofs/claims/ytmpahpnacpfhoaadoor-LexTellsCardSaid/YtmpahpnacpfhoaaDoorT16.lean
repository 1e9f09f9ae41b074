/- The law's Same: true of two lists of tokens that are the same. -/
import Derived.Test.YtmpahpnacpfhoaaDoorM
namespace Go.Proofs.YtmpahpnacpfhoaaDoor
open Go.RowKit

set_option maxHeartbeats 4000000 in
set_option maxRecDepth 100000 in
theorem same_any (ts us : List PTok) (va vb : Value) (B B' : Nat) (w : World) (ha : Toks w B va ts) (hb : Toks w B' vb us) (he : ts = us) (hn : ts.length ≤ 4000) :
    Calls Tryd.prog 13 #[va, vb] w fun e w' => e = .returned (.bool true) ∧ Below w.heap.size w w' := by
  have hlen : us.length = ts.length := by rw [he]
  rcases ha with ⟨rfl, ao, cv, rfl⟩ | ⟨g, cap, rfl, _, hcap, hgl, hne, hca⟩
  · have : us = [] := List.eq_nil_of_length_eq_zero (by simpa using hlen)
    subst this
    rcases hb with ⟨_, bo, cb, rfl⟩ | ⟨_, _, _, _, _, _, hne, _⟩
    · go_enter Tryd.func13, Tryd.ntmps13
      go_wp2
      go_loop [5] (fun i => i = .int .i64 0) (fun _ => 0)
      case atStart => rfl
      case round =>
        subst hrel
        go_wp2
        go_ret
        exact ⟨rfl, Below.refl _ _⟩
    · exact absurd rfl hne
  · have hun : us ≠ [] := by rw [← he]; exact hne
    rcases hb with ⟨h, _⟩ | ⟨g', cap', rfl, _, hcap', hgl', _, hcb⟩
    · exact absurd h hun
    · have HA := Lib.hid hca
      have HB := Lib.hid hcb
      have HE := Lib.hid he
      obtain ⟨n, hN⟩ : ∃ n, n = ts.length := ⟨_, rfl⟩
      have hum : us.length = n := by rw [hlen, hN]
      rw [hlen] at hcap'
      rw [← hN] at hn hcap hcap'
      have HN := Lib.hid hN
      have HU := Lib.hid hum
      rw [show us.length = ts.length from hlen, ← hN]
      clear hca hcb he hne hun hlen hN hum
      go_enter Tryd.func13, Tryd.ntmps13
      go_wp2
      go_loopw [5] (fun i wr => ∃ k : Nat, k ≤ n ∧ i = .int .i64 k ∧ Below w.heap.size w wr) (fun i _ => n - (intOf i).toNat)
      case atStart => exact ⟨0, Nat.zero_le _, rfl, Below.refl _ _⟩
      case round =>
        obtain ⟨k, hk, rfl, hbw⟩ := hrel
        by_cases hlt : k < n
        · obtain ⟨t, ht⟩ : ∃ t, ts[k]? = some t := ⟨_, List.getElem?_eq_getElem (by rw [← HN.out]; exact hlt)⟩
          obtain ⟨u, hu⟩ : ∃ u, us[k]? = some u := ⟨_, List.getElem?_eq_getElem (by rw [HU.out]; exact hlt)⟩
          have hx : u = t := by
            rw [← HE.out, ht] at hu
            exact (Option.some.inj hu).symm
          obtain ⟨a0, a1, a2, a3, a4⟩ := HA.out k t ht
          obtain ⟨b0, b1, b2, b3, b4⟩ := HB.out k u hu
          rw [hx] at b0 b1 b2 b3 b4
          have hca := fun j v (h : w.cell? ⟨g, j, none⟩ = some v) => (hbw.cell (p := ⟨g, j, none⟩) hgl).trans h
          have hcb := fun j v (h : w.cell? ⟨g', j, none⟩ = some v) => (hbw.cell (p := ⟨g', j, none⟩) hgl').trans h
          have a0' := hca _ _ a0
          have a1' := hca _ _ a1
          have a2' := hca _ _ a2
          have a3' := hca _ _ a3
          have a4' := hca _ _ a4
          have b0' := hcb _ _ b0
          have b1' := hcb _ _ b1
          have b2' := hcb _ _ b2
          have b3' := hcb _ _ b3
          have b4' := hcb _ _ b4
          clear a0 a1 a2 a3 a4 b0 b1 b2 b3 b4 hca hcb hx ht hu
          obtain ⟨K, hK⟩ : ∃ K : Int, (t.1.kind : Int) = K := ⟨_, rfl⟩
          obtain ⟨P, hP⟩ : ∃ P : Int, (t.2 : Int) = P := ⟨_, rfl⟩
          obtain ⟨X, hX⟩ : ∃ X : ByteArray, (⟨t.1.text.toArray⟩ : ByteArray) = X := ⟨_, rfl⟩
          obtain ⟨N, hN⟩ : ∃ N : Int, (t.1.num : Int) = N := ⟨_, rfl⟩
          obtain ⟨U, hU⟩ : ∃ U : Bool, t.1.uns = U := ⟨_, rfl⟩
          rw [hK] at a0' b0'
          rw [hP] at a1' b1'
          rw [hX] at a2' b2'
          rw [hN] at a3' b3'
          rw [hU] at a4' b4'
          clear hK hP hX hN hU
          have i0 : (0 : Int) ≤ k := by omega
          have i1 : (k : Int) < n := by omega
          have hKK : (K != K) = false := by simp
          have hNN : (N != N) = false := by simp
          go_wp2
          go_quiet (fail)
          go_wp2
          go_roundw
          case rel => exact ⟨k + 1, by omega, by go_num, below_drewN hbw _⟩
          case measure => simp [intOf]; omega
        · have hkk : k = n := by omega
          subst hkk
          go_wp2
          go_ret
          exact ⟨rfl, hbw⟩
end Go.Proofs.YtmpahpnacpfhoaaDoor
