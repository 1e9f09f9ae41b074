/- lex.skip: past blanks and comments, for every text of at most 20000 bytes and every place in it. -/
import Derived.Test.YtmpahpnacpfhoaaDoorG
namespace Go.Proofs.YtmpahpnacpfhoaaDoor
open Go.RowKit

theorem lineLen_le (l : Bs) : lineLen l ≤ l.length := by
  unfold lineLen
  split
  · rename_i h
    obtain ⟨o, ho⟩ : ∃ o : Nat, Lib.indexByte l 10 = o := ⟨(Lib.indexByte l 10).toNat, by omega⟩
    have := (Lib.indexByte_some ho).1
    rcases Nat.lt_or_ge o l.length with h1 | h1
    · omega
    · rw [List.getElem?_eq_none h1] at this; cases this
  · exact Nat.le_refl _
theorem lineLen_pos {l : Bs} (h : Lib.hasPrefix l [47, 47] = true) : 0 < lineLen l := by
  unfold Lib.hasPrefix at h
  obtain ⟨t, ht⟩ := List.isPrefixOf_iff_prefix.1 h
  subst ht
  unfold lineLen
  split
  · rename_i h1
    obtain ⟨o, ho⟩ : ∃ o : Nat, Lib.indexByte ([47, 47] ++ t) 10 = o := ⟨(Lib.indexByte ([47, 47] ++ t) 10).toNat, by omega⟩
    have := (Lib.indexByte_some ho).1
    rcases Nat.eq_zero_or_pos o with h0 | h0
    · subst h0; simp at this
    · omega
  · simp
theorem index_room (sub : Bs) (h2 : 0 < sub.length) : ∀ l : Bs, 0 ≤ Lib.index l sub → (Lib.index l sub).toNat + sub.length ≤ l.length := by
  intro l
  induction l with
  | nil =>
    intro h
    unfold Lib.index at h
    split at h
    · rename_i h1; rw [List.isEmpty_iff] at h1; subst h1; simp at h2
    · omega
  | cons b l ih =>
    intro h
    unfold Lib.index at h ⊢
    split at h
    · rename_i h1
      rw [if_pos h1]
      have := (List.isPrefixOf_iff_prefix.1 h1).length_le
      simpa using this
    · rename_i h1
      rw [if_neg h1]
      split at h
      · omega
      · rename_i h3
        rw [if_neg h3]
        have hge := Lib.index_ge l sub
        simp only [beq_iff_eq] at h3
        have := ih (by omega)
        simp only [List.length_cons]
        omega

theorem skip_blank {f : Nat} {l : Bs} {a : Nat} (h : a < l.length) (hb : blankB (l.getD a 0) = true) : skipL (f + 1) l a = skipL f l (a + 1) := by
  rw [skipL, if_pos h, if_pos hb]
theorem skip_line {f : Nat} {l : Bs} {a : Nat} (h : a < l.length) (hb : blankB (l.getD a 0) = false) (h1 : Lib.hasPrefix (l.drop a) [47, 47] = true) : skipL (f + 1) l a = skipL f l (a + lineLen (l.drop a)) := by
  rw [skipL, if_pos h, if_neg (by rw [hb]; simp), if_pos h1]
theorem skip_open {f : Nat} {l : Bs} {a : Nat} (h : a < l.length) (hb : blankB (l.getD a 0) = false) (h1 : Lib.hasPrefix (l.drop a) [47, 47] = false) (h2 : Lib.hasPrefix (l.drop a) [47, 42] = true)
    (h3 : Lib.index ((l.drop a).drop 2) [42, 47] < 0) : skipL (f + 1) l a = (a, 13) := by
  rw [skipL, if_pos h, if_neg (by rw [hb]; simp), if_neg (by rw [h1]; simp), if_pos h2, if_pos h3]
theorem skip_shut {f : Nat} {l : Bs} {a : Nat} (h : a < l.length) (hb : blankB (l.getD a 0) = false) (h1 : Lib.hasPrefix (l.drop a) [47, 47] = false) (h2 : Lib.hasPrefix (l.drop a) [47, 42] = true)
    (h3 : ¬ Lib.index ((l.drop a).drop 2) [42, 47] < 0) : skipL (f + 1) l a = skipL f l (a + (2 + (Lib.index ((l.drop a).drop 2) [42, 47]).toNat + 2)) := by
  rw [skipL, if_pos h, if_neg (by rw [hb]; simp), if_neg (by rw [h1]; simp), if_pos h2, if_neg h3]
theorem skip_stop {f : Nat} {l : Bs} {a : Nat} (h : a < l.length) (hb : blankB (l.getD a 0) = false) (h1 : Lib.hasPrefix (l.drop a) [47, 47] = false) (h2 : Lib.hasPrefix (l.drop a) [47, 42] = false) : skipL (f + 1) l a = (a, 0) := by
  rw [skipL, if_pos h, if_neg (by rw [hb]; simp), if_neg (by rw [h1]; simp), if_neg (by rw [h2]; simp)]
theorem skip_end {f : Nat} {l : Bs} {a : Nat} (h : ¬ a < l.length) : skipL (f + 1) l a = (a, 0) := by
  rw [skipL, if_neg h]

theorem cut_head (s : ByteArray) (k : Nat) (h' : 0 < (s.extract k s.size).size) : (s.extract k s.size)[0] = s.data.toList.getD k 0 := by
  have h1 := Lib.data_getElem? (s.extract k s.size) 0 h'
  rw [Lib.extract_to_end, List.getElem?_drop] at h1
  simp only [Nat.add_zero] at h1
  simp [List.getD, h1]

set_option maxHeartbeats 2000000 in
theorem skip_any (s : ByteArray) (a : Nat) (ha : a ≤ s.size) (hs : s.size ≤ 20000) (m : Int) (w : World) (hm : w.cell? ⟨0, 0, none⟩ = some (.int .i64 m)) :
    Calls Tryd.prog 18 #[.string s, .int .i64 a] w fun e w' => e = .returned (.tuple #[.int .i64 (skipAt s.data.toList a).1, .int .i64 (skipAt s.data.toList a).2]) ∧ w = w' := by
  obtain ⟨sp, hsp⟩ : ∃ sp, sp = skipAt s.data.toList a := ⟨_, rfl⟩
  rw [← hsp]
  unfold skipAt at hsp
  have HM := Lib.hid hm
  clear hm
  go_enter Tryd.func18, Tryd.ntmps18
  go_wp2
  go_loop [1] (fun i => ∃ k f : Nat, k ≤ s.size ∧ i = .int .i64 k ∧ s.size - k < f ∧ Hid (sp = skipL f s.data.toList k)) (fun i => s.size - (intOf i).toNat)
  case atStart => exact ⟨a, s.data.toList.length + 1, ha, rfl, by rw [← Lib.size_eq]; omega, Lib.hid hsp⟩
  case round =>
    obtain ⟨k, f, hk, rfl, hf, hh⟩ := hrel
    obtain ⟨g, rfl⟩ : ∃ g, f = g + 1 := ⟨f - 1, by omega⟩
    clear hsp
    by_cases hlt : k < s.size
    · have hl : k < s.data.toList.length := by rw [← Lib.size_eq]; exact hlt
      have hxs : (s.extract k s.size).size = s.size - k := by rw [ByteArray.size_extract]; omega
      have hx0 : 0 < (s.extract k s.size).size := by omega
      have hch := cut_head s k hx0
      have hpx := fun p => hasPrefix_any (s.extract k s.size) p
      have hln := lineComment_any (s.extract k s.size)
      rw [Lib.extract_to_end] at hpx hln
      have hble := isBlank_any (s.extract k s.size)[0]
      have hbl : blankB (s.extract k s.size)[0] = blankB (s.data.toList.getD k 0) := by rw [hch]
      rw [hbl] at hble
      clear hbl hch
      cases hb : blankB (s.data.toList.getD k 0) with
      | true =>
        rw [hb] at hble
        have HS := Lib.hid (hh.out.trans (skip_blank hl hb))
        have HB := Lib.hid hble
        clear hpx hln hble hb hxs
        go_wp2_with (first | (go_at_call 23; refine (HB.out _).mono ?_; rintro e w' ⟨rfl, rfl⟩))
        go_round
        case rel => exact ⟨k + 1, g, by omega, by go_num, by omega, HS⟩
        case measure => simp [intOf]; omega
      | false =>
        rw [hb] at hble
        have HB := Lib.hid hble
        clear hble
        cases h1 : Lib.hasPrefix (s.data.toList.drop k) [47, 47] with
        | true =>
          have hp1 := hpx ⟨#[47, 47]⟩
          rw [h1] at hp1
          have H1 := Lib.hid hp1
          have hlp := lineLen_pos h1
          have hll := lineLen_le (s.data.toList.drop k)
          rw [List.length_drop, ← Lib.size_eq] at hll
          have hS := hh.out.trans (skip_line hl hb h1)
          obtain ⟨n, hn⟩ : ∃ n, n = lineLen (s.data.toList.drop k) := ⟨_, rfl⟩
          rw [← hn] at hlp hll hln hS
          have HS := Lib.hid hS
          have HL := Lib.hid hln
          clear hpx hln hb hxs hp1 hS hn h1
          go_wp2_with (first | (go_at_call 23; refine (HB.out _).mono ?_; rintro e w' ⟨rfl, rfl⟩) | (go_at_call 24; with_reducible refine (H1.out _).mono ?_; rintro e w' ⟨rfl, rfl⟩) | (go_at_call 25; refine (HL.out _).mono ?_; rintro e w' ⟨rfl, rfl⟩))
          go_round
          case rel => exact ⟨k + n, g, by omega, by go_num, by omega, HS⟩
          case measure => simp [intOf]; omega
        | false =>
          have hp1 := hpx ⟨#[47, 47]⟩
          rw [h1] at hp1
          have H1 := Lib.hid hp1
          cases h2 : Lib.hasPrefix (s.data.toList.drop k) [47, 42] with
          | true =>
            have hp2 := hpx ⟨#[47, 42]⟩
            rw [h2] at hp2
            have H2 := Lib.hid hp2
            have hlen : 2 ≤ s.size - k := by
              have := (List.isPrefixOf_iff_prefix.1 h2).length_le
              rw [List.length_drop, ← Lib.size_eq] at this
              simpa using this
            have hge := Lib.index_ge ((s.data.toList.drop k).drop 2) [42, 47]
            have hrm := index_room [42, 47] (by simp) ((s.data.toList.drop k).drop 2)
            rw [List.length_drop, List.length_drop, ← Lib.size_eq] at hrm
            simp only [List.length_cons, List.length_nil, Nat.zero_add, Nat.reduceAdd] at hrm
            have hSo := fun h => hh.out.trans (skip_open hl hb h1 h2 h)
            have hSs := fun h => hh.out.trans (skip_shut hl hb h1 h2 h)
            obtain ⟨j, hj⟩ : ∃ j, j = Lib.index ((s.data.toList.drop k).drop 2) [42, 47] := ⟨_, rfl⟩
            have hix : ∀ x : ByteArray, x.data.toList = (s.data.toList.drop k).drop 2 → Lib.index x.data.toList [42, 47] = j := fun x hx => by rw [hx, hj]
            rw [← hj] at hge hrm hSo hSs
            have HSo := Lib.hid hSo
            have HSs := Lib.hid hSs
            have HI := Lib.hid hix
            have HX := Lib.hid hxs
            clear hxs hpx hln hb hp1 hp2 hSo hSs hj h1 h2 hix
            go_wp2_with (first | (go_at_call 23; refine (HB.out _).mono ?_; rintro e w' ⟨rfl, rfl⟩) | (go_at_call 24; first | (with_reducible refine (H1.out _).mono ?_; rintro e w' ⟨rfl, rfl⟩) | (with_reducible refine (H2.out _).mono ?_; rintro e w' ⟨rfl, rfl⟩)))
            refine (index_any _ _ m _ (by rw [ByteArray.size_extract]; omega) HM.out).mono ?_
            rintro e w' ⟨rfl, rfl⟩
            rw [HI.out _ (by rw [← HX.out, Lib.extract_to_end, Lib.extract_to_end])]
            by_cases hneg : j < 0
            · have HS := Lib.hid (HSo.out hneg)
              clear HSo HSs HI hrm
              go_wp2
              go_ret2
              exact ⟨by rw [HS.out]; rfl, rfl⟩
            · have hS := HSs.out (by omega)
              have hr2 := hrm (by omega)
              obtain ⟨o, rfl⟩ : ∃ o : Nat, j = o := ⟨j.toNat, by omega⟩
              rw [Int.toNat_natCast] at hS hr2
              have HS := Lib.hid hS
              clear HSo HSs HI hrm hS
              go_wp2
              go_round
              case rel => exact ⟨k + (2 + o + 2), g, by omega, by go_num, by omega, HS⟩
              case measure => simp [intOf]; omega
          | false =>
            have hp2 := hpx ⟨#[47, 42]⟩
            rw [h2] at hp2
            have H2 := Lib.hid hp2
            have HS := Lib.hid (hh.out.trans (skip_stop hl hb h1 h2))
            clear hpx hln hb hxs hp1 hp2 h1 h2
            go_wp2_with (first | (go_at_call 23; refine (HB.out _).mono ?_; rintro e w' ⟨rfl, rfl⟩) | (go_at_call 24; first | (with_reducible refine (H1.out _).mono ?_; rintro e w' ⟨rfl, rfl⟩) | (with_reducible refine (H2.out _).mono ?_; rintro e w' ⟨rfl, rfl⟩)))
            go_ret2
            exact ⟨by rw [HS.out]; rfl, rfl⟩
    · have hkk : k = s.size := by omega
      subst hkk
      have HS := Lib.hid (hh.out.trans (skip_end (by rw [← Lib.size_eq]; exact hlt)))
      go_wp2
      go_ret2
      exact ⟨by rw [HS.out]; rfl, rfl⟩
end Go.Proofs.YtmpahpnacpfhoaaDoor
