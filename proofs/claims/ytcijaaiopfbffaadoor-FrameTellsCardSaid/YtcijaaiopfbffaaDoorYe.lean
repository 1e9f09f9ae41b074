/- The document's sorted. -/
import Derived.Test.YtcijaaiopfbffaaDoorYd
import Derived.IntWalk
namespace Go.Proofs.YtcijaaiopfbffaaDoor.Graph
open Go.RowKit

theorem below_drew {n : Nat} {w w' : World} (h : Below n w w') (m : Nat) : Below n w (w'.drewN m) := ⟨h.1, h.2, h.3, h.4, h.5⟩


def lenV : Value → Nat
  | .slice _ n _ => n
  | _ => 0
theorem own_form {w : World} {B : Nat} {v : Value} {k : Nat} {L : List Int} (h : w.ownsRow B 3 1 v k (L.map iv)) :
    (k = 0 ∧ ∃ p c, v = .slice p 0 c) ∨ (0 < k ∧ ∃ g cap, v = .slice (some ⟨g, 0, none⟩) k cap ∧ g < w.heap.size ∧ k ≤ cap ∧ cap ≤ 9223372036854775807 ∧ ∀ j x, j < k → L[j]? = some x → w.cell? ⟨g, j, none⟩ = some (.int .i64 x)) := by
  rcases h.2 with ⟨rfl, h0⟩ | ⟨g, cap, cur, rfl, hB, hg, h1, h2, h3, h4⟩
  · exact .inl ⟨h0, _, _, rfl⟩
  · rcases Nat.eq_zero_or_pos k with h0 | h0
    · subst h0; exact .inl ⟨rfl, _, _, rfl⟩
    · refine .inr ⟨h0, g, cap, rfl, lt_of_block hg, h1, h2, fun j x hj hx => ?_⟩
      have h5 : cur.toList[j]? = some (iv x) := by
        have h6 : (cur.toList.take (k * 1))[j]? = (L.map iv)[j]? := by rw [h4]
        rw [List.getElem?_take_of_lt (by omega), List.getElem?_map, hx] at h6
        exact h6
      exact (cell_of_block hg (k := j) (v := .int .i64 x) (by simpa [iv] using h5)).1
theorem take_last {S : List Int} {k : Nat} (hk : k ≤ S.length) (h0 : 0 < k) : ∃ a, loAt S k = some a ∧ (S.take k)[k - 1]? = some a := by
  refine ⟨S[k - 1]'(by omega), ?_, ?_⟩
  · unfold loAt; rw [if_neg (by omega)]; exact List.getElem?_eq_getElem (by omega)
  · rw [List.getElem?_take_of_lt (by omega)]; exact List.getElem?_eq_getElem (by omega)
theorem pick_no1 {lo acc : Option Int} {x a : Int} (hl : lo = some a) (h : x ≤ a) : pick lo acc x = acc := by
  subst hl; unfold pick; rw [show okLo (some a) x = false from decide_eq_false (by omega), Bool.false_and]; rfl
theorem pick_no2 {lo : Option Int} {x m : Int} (h : m ≤ x) : pick lo (some m) x = some m := by
  unfold pick; rw [show okHi (some m) x = false from decide_eq_false (by omega), Bool.and_false]; rfl
theorem pick_yes1 {lo : Option Int} {x : Int} (h : okLo lo x = true) : pick lo none x = some x := by unfold pick; rw [h]; rfl
theorem pick_yes2 {lo : Option Int} {x m : Int} (h : okLo lo x = true) (h2 : x < m) : pick lo (some m) x = some x := by unfold pick; rw [h, show okHi (some m) x = true from decide_eq_true h2]; rfl
theorem okLo_none {x : Int} : okLo none x = true := rfl
theorem okLo_some {a x : Int} (h : a < x) : okLo (some a) x = true := decide_eq_true h
theorem take_get {S : List Int} {k : Nat} {m : Int} (h : S[k]? = some m) : (S.take (k + 1)).map iv = (S.take k).map iv ++ [iv m] := by
  rw [List.take_add_one, h, Option.toList_some, List.map_append]; rfl
set_option maxHeartbeats 8000000 in
set_option maxRecDepth 100000 in
theorem sorted_any (l : List Int) (v : Value) (w : World) (h : IntsR w v l) (hb : l.length * 8 ≤ 140737488355328) :
    Calls Tryd.prog 39 #[v] w (OwnL w (Lib.compact (sortL l))) := by
  have HST := Lib.hid (sorted_strict l)
  have hSl : (Lib.compact (sortL l)).length ≤ l.length := by have := compact_le (sortL l); rw [sortL_len] at this; exact this
  obtain ⟨S, hS⟩ : ∃ S, S = Lib.compact (sortL l) := ⟨_, rfl⟩
  rw [← hS] at HST hSl ⊢
  have HV := Lib.hid h
  obtain ⟨p, c, rfl⟩ := h.form
  obtain ⟨n, hn⟩ : ∃ n, n = l.length := ⟨_, rfl⟩
  have HN := Lib.hid hn
  rw [← hn] at hb hSl ⊢
  have HB := Lib.hid hb
  have HSL := Lib.hid hSl
  have n1 : (n : Int) ≤ 9223372036854775807 := by omega
  have n2 : n ≤ 9223372036854775807 := by omega
  clear h hS hn hb hSl
  go_enter Tryd.func39, Tryd.ntmps39
  go_wp2
  go_loopw [3] (fun ov wr => ∃ k : Nat, Hid (k ≤ S.length) ∧ Hid (wr.ownsRow w.heap.size 3 1 ov k ((S.take k).map iv)) ∧ Below w.heap.size w wr) (fun ov _ => n + 1 - lenV ov)
  case atStart => exact ⟨0, Lib.hid (Nat.zero_le _), Lib.hid (World.ownsRow_nil _ _ _ _), Below.refl _ _⟩
  case round =>
    obtain ⟨k, HK, HO, hbw⟩ := hrel
    have HBW := Lib.hid hbw
    have hkn : k ≤ n := by have := HK.out; have := HSL.out; omega
    have hkI : (k : Int) ≤ n := by omega
    clear hbw
    rcases own_form HO.out with ⟨h0, q, d, rfl⟩ | ⟨h0, g, cap, rfl, hg, hc1, hc2, hcell⟩
    · subst h0
      go_wp2
      rename World => wo
      go_loopw [4, 5, 6] (fun f le i wq => ∃ j : Nat, ∃ acc : Option Int, j ≤ n ∧ i = .int .i64 j ∧ Hid (acc = least (loAt S 0) (l.take j)) ∧ f = .bool acc.isSome ∧ le = .int .i64 (acc.getD 0) ∧ Below wo.heap.size wo wq) (fun _ _ i _ => n - (intOf i).toNat)
      case atStart => exact ⟨0, none, Nat.zero_le _, rfl, Lib.hid rfl, rfl, rfl, Below.refl _ _⟩
      case round =>
        obtain ⟨j, acc, hj, rfl, HA, rfl, rfl, hbq⟩ := hrel
        have HBQ := Lib.hid hbq
        by_cases hlt : j < n
        · obtain ⟨x, hx⟩ := getN HN.out hlt
          obtain ⟨g1, o1, c1, hv, hcap1, hgl1, hcell1⟩ := SlR.form2 HV.out (by have := HN.out; omega)
          injection hv with hv hvn hv2
          clear hvn
          subst hv hv2
          have c0 := (hbq.cell (p := ⟨g1, o1 + j * 1, none⟩) (Nat.lt_of_lt_of_le hgl1 HBW.out.size)).trans ((HBW.out.cell (p := ⟨g1, o1 + j * 1, none⟩) hgl1).trans (hcell1 j (by have := HN.out; omega) x hx))
          rw [Nat.mul_one] at c0
          have l0 : g1 < wr.heap.size := Nat.lt_of_lt_of_le hgl1 (Nat.le_trans HBW.out.size hbq.size)
          have j0 : (0 : Int) ≤ j := by omega
          have j1 : (j : Int) < n := by omega
          have j2 : (n : Int) ≤ c := by have := HN.out; omega
          have HX := Lib.hid hx
          clear hx hbq hcap1 hcell1
          cases acc with
          | none =>
            go_wp2
            go_quiet (fail)
            go_wp2
            exact ⟨⟨j + 1, some x, Nat.succ_le_of_lt hlt, by go_num, Lib.hid (by rw [least_take HX.out, ← HA.out]; exact (pick_yes1 okLo_none).symm), rfl, rfl, below_drew HBQ.out nq⟩, by simp [intOf]; omega⟩
          | some m =>
            by_cases hm : x < m
            · have hm1 : decide (x < m) = true := decide_eq_true hm
              go_wp2
              go_quiet (fail)
              go_wp2
              exact ⟨⟨j + 1, some x, Nat.succ_le_of_lt hlt, by go_num, Lib.hid (by rw [least_take HX.out, ← HA.out]; exact (pick_yes2 okLo_none hm).symm), rfl, rfl, below_drew HBQ.out nq⟩, by simp [intOf]; omega⟩
            · have hm1 : decide (x < m) = false := decide_eq_false hm
              have hm2 : m ≤ x := by omega
              go_wp2
              go_quiet (fail)
              go_wp2
              exact ⟨⟨j + 1, some m, Nat.succ_le_of_lt hlt, by go_num, Lib.hid (by rw [least_take HX.out, ← HA.out]; exact (pick_no2 hm2).symm), rfl, rfl, below_drew HBQ.out nq⟩, by simp [intOf]; omega⟩
        · obtain rfl : j = n := by omega
          have HE : Hid (acc = S[0]?) := Lib.hid (by
            have h := HA.out
            rw [HN.out, List.take_length, least_is HST.out HK.out] at h
            exact h)
          clear hbq
          cases acc with
          | none =>
            go_wp2
            go_ret
            have hlen : S.length = 0 := by
              have h1 := HE.out.symm
              rw [List.getElem?_eq_none_iff] at h1
              have := HK.out
              omega
            have hO := HO.out
            rw [← hlen, List.take_length] at hO
            exact ⟨_, rfl, row_below (by simpa [hlen] using hO) HBQ.out, HBW.out.trans (HBQ.out.mono HBW.out.size)⟩
          | some m =>
            have hkl : 0 < S.length := by
              rcases Nat.lt_or_ge 0 S.length with h | h
              · exact h
              · have h1 := HE.out; rw [List.getElem?_eq_none h] at h1; cases h1
            have HKL := Lib.hid hkl
            obtain ⟨i0, hi, hz0, hz1, hz2⟩ := info_parts info_int
            have HI := Lib.hid hi
            have hba := below_alloc wr (.cells #[iv m] 3)
            have hbt : Below wo.heap.size wo (wr.alloc (.cells #[iv m] 3)) := HBQ.out.alloc HBQ.out.size _
            have HR := Lib.hid (row_below HO.out hbt)
            have HBT := Lib.hid (HBW.out.trans (hbt.mono HBW.out.size))
            have HNW := Lib.hid (news_one (w := wr) (x := m) rfl)
            have hbound : (0 + 1) * 8 ≤ 140737488355328 := by have := HSL.out; have := HB.out; omega
            have HBO := Lib.hid hbound
            clear hi hba hbt hbound hkl
            go_wp2_with (
              at_builtin
              go_loud (refine wpList_append_lies _ (by rfl) _ _ 22 (by rfl) w.heap.size 3 i0 _ 1 8 Tryd.underlying22 HI.out hz0 hz1 hz2 rfl (by omega) _ 0 _ (by rfl) HR.out ⟨wr.heap.size, 0, none⟩ 1 1 [iv m] (by rfl) rfl HNW.out (by simp [iv, Value.oneCell']) (by omega) (by unfold maxLen; have := HBO.out; omega) (by have := HBO.out; omega) HBT.out.size _ rfl ?_)
              intro g5 c5 w5 h5 h6 _ _
              have H5 := Lib.hid h5
              have H6 := Lib.hid (Below.grown HBT.out h6 HBT.out.size (fun q hq => (World.ownsRow.lt HR.out q hq).1))
              clear h5 h6)
            exact ⟨⟨0 + 1, Lib.hid HKL.out, Lib.hid (by rw [take_get HE.out.symm]; exact H5.out), H6.out⟩, by simp [lenV] <;> omega⟩
    · obtain ⟨a, hlo, hla⟩ := take_last HK.out h0
      have HLO := Lib.hid hlo
      have HLC := Lib.hid (hcell (k - 1) a (by omega) hla)
      have HSUM : Hid (IntKind.i64.wrap ((k : Int) - 1) = (k : Int) - 1 ∧ (0 : Int) ≤ (k : Int) - 1 ∧ ((k : Int) - 1).toNat = k - 1 ∧ (k : Int) - 1 < k) := Lib.hid ⟨IntWalk.i64_in _ (by omega), by omega, by omega, by omega⟩
      have hk0 : ((k : Int) == 0) = false := by simp; omega
      have hcI : (k : Int) ≤ cap := by omega
      clear hcell hlo hla
      go_wp2
      rename World => wo
      go_loopw [4, 5, 6] (fun f le i wq => ∃ j : Nat, ∃ acc : Option Int, j ≤ n ∧ i = .int .i64 j ∧ Hid (acc = least (loAt S k) (l.take j)) ∧ f = .bool acc.isSome ∧ le = .int .i64 (acc.getD 0) ∧ Below wo.heap.size wo wq) (fun _ _ i _ => n - (intOf i).toNat)
      case atStart => exact ⟨0, none, Nat.zero_le _, rfl, Lib.hid rfl, rfl, rfl, Below.refl _ _⟩
      case round =>
        obtain ⟨j, acc, hj, rfl, HA, rfl, rfl, hbq⟩ := hrel
        have HBQ := Lib.hid hbq
        by_cases hlt : j < n
        · obtain ⟨x, hx⟩ := getN HN.out hlt
          obtain ⟨g1, o1, c1, hv, hcap1, hgl1, hcell1⟩ := SlR.form2 HV.out (by have := HN.out; omega)
          injection hv with hv hvn hv2
          clear hvn
          subst hv hv2
          have c0 := (hbq.cell (p := ⟨g1, o1 + j * 1, none⟩) (Nat.lt_of_lt_of_le hgl1 HBW.out.size)).trans ((HBW.out.cell (p := ⟨g1, o1 + j * 1, none⟩) hgl1).trans (hcell1 j (by have := HN.out; omega) x hx))
          rw [Nat.mul_one] at c0
          have l0 : g1 < wr.heap.size := Nat.lt_of_lt_of_le hgl1 (Nat.le_trans HBW.out.size hbq.size)
          have j0 : (0 : Int) ≤ j := by omega
          have j1 : (j : Int) < n := by omega
          have j2 : (n : Int) ≤ c := by have := HN.out; omega
          have HX := Lib.hid hx
          have d0 := (hbq.cell (p := ⟨g, k - 1, none⟩) hg).trans HLC.out
          have l1 : g < wr.heap.size := Nat.lt_of_lt_of_le hg hbq.size
          clear hx hbq hcap1 hcell1
          obtain ⟨s1, s2, s3, s4⟩ := HSUM.out
          by_cases ha : a < x
          case neg =>
            have ha2 : x ≤ a := by omega
            have ha3 : decide (a < x) = false := decide_eq_false ha
            cases acc with
            | none =>
              go_wp2
              go_quiet (fail)
              go_wp2
              exact ⟨⟨j + 1, none, Nat.succ_le_of_lt hlt, by go_num, Lib.hid (by rw [least_take HX.out, ← HA.out]; exact (pick_no1 HLO.out ha2).symm), rfl, rfl, below_drew HBQ.out nq⟩, by simp [intOf]; omega⟩
            | some m =>
              go_wp2
              go_quiet (fail)
              go_wp2
              exact ⟨⟨j + 1, some m, Nat.succ_le_of_lt hlt, by go_num, Lib.hid (by rw [least_take HX.out, ← HA.out]; exact (pick_no1 HLO.out ha2).symm), rfl, rfl, below_drew HBQ.out nq⟩, by simp [intOf]; omega⟩
          have ha3 : decide (a < x) = true := decide_eq_true ha
          cases acc with
          | none =>
            go_wp2
            go_quiet (fail)
            go_wp2
            exact ⟨⟨j + 1, some x, Nat.succ_le_of_lt hlt, by go_num, Lib.hid (by rw [least_take HX.out, ← HA.out]; exact (pick_yes1 (by rw [HLO.out]; exact okLo_some ha)).symm), rfl, rfl, below_drew HBQ.out nq⟩, by simp [intOf]; omega⟩
          | some m =>
            by_cases hm : x < m
            · have hm1 : decide (x < m) = true := decide_eq_true hm
              go_wp2
              go_quiet (fail)
              go_wp2
              exact ⟨⟨j + 1, some x, Nat.succ_le_of_lt hlt, by go_num, Lib.hid (by rw [least_take HX.out, ← HA.out]; exact (pick_yes2 (by rw [HLO.out]; exact okLo_some ha) hm).symm), rfl, rfl, below_drew HBQ.out nq⟩, by simp [intOf]; omega⟩
            · have hm1 : decide (x < m) = false := decide_eq_false hm
              have hm2 : m ≤ x := by omega
              go_wp2
              go_quiet (fail)
              go_wp2
              exact ⟨⟨j + 1, some m, Nat.succ_le_of_lt hlt, by go_num, Lib.hid (by rw [least_take HX.out, ← HA.out]; exact (pick_no2 hm2).symm), rfl, rfl, below_drew HBQ.out nq⟩, by simp [intOf]; omega⟩
        · obtain rfl : j = n := by omega
          have HE : Hid (acc = S[k]?) := Lib.hid (by
            have h := HA.out
            rw [HN.out, List.take_length, least_is HST.out HK.out] at h
            exact h)
          clear hbq
          cases acc with
          | none =>
            go_wp2
            go_ret
            have hlen : S.length = k := by
              have h1 := HE.out.symm
              rw [List.getElem?_eq_none_iff] at h1
              have := HK.out
              omega
            have hO := HO.out
            rw [← hlen, List.take_length] at hO
            exact ⟨_, rfl, row_below (by simpa [hlen] using hO) HBQ.out, HBW.out.trans (HBQ.out.mono HBW.out.size)⟩
          | some m =>
            have hkl : k < S.length := by
              rcases Nat.lt_or_ge k S.length with h | h
              · exact h
              · have h1 := HE.out; rw [List.getElem?_eq_none h] at h1; cases h1
            have HKL := Lib.hid hkl
            obtain ⟨i0, hi, hz0, hz1, hz2⟩ := info_parts info_int
            have HI := Lib.hid hi
            have hba := below_alloc wr (.cells #[iv m] 3)
            have hbt : Below wo.heap.size wo (wr.alloc (.cells #[iv m] 3)) := HBQ.out.alloc HBQ.out.size _
            have HR := Lib.hid (row_below HO.out hbt)
            have HBT := Lib.hid (HBW.out.trans (hbt.mono HBW.out.size))
            have HNW := Lib.hid (news_one (w := wr) (x := m) rfl)
            have hbound : (k + 1) * 8 ≤ 140737488355328 := by have := HSL.out; have := HB.out; omega
            have HBO := Lib.hid hbound
            clear hi hba hbt hbound hkl
            go_wp2_with (
              at_builtin
              go_loud (refine wpList_append_lies _ (by rfl) _ _ 22 (by rfl) w.heap.size 3 i0 _ 1 8 Tryd.underlying22 HI.out hz0 hz1 hz2 rfl (by omega) _ k _ (by rfl) HR.out ⟨wr.heap.size, 0, none⟩ 1 1 [iv m] (by rfl) rfl HNW.out (by simp [iv, Value.oneCell']) (by omega) (by unfold maxLen; have := HBO.out; omega) (by have := HBO.out; omega) HBT.out.size _ rfl ?_)
              intro g5 c5 w5 h5 h6 _ _
              have H5 := Lib.hid h5
              have H6 := Lib.hid (Below.grown HBT.out h6 HBT.out.size (fun q hq => (World.ownsRow.lt HR.out q hq).1))
              clear h5 h6)
            exact ⟨⟨k + 1, Lib.hid HKL.out, Lib.hid (by rw [take_get HE.out.symm]; exact H5.out), H6.out⟩, by simp [lenV]; have := HKL.out; have := HSL.out; omega⟩
end Go.Proofs.YtcijaaiopfbffaaDoor.Graph
