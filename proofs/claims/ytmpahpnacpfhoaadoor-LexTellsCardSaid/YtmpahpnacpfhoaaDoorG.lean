/- lex.read: the token with which a text begins, for every text of at most 20000 bytes with a byte in it. -/
import Derived.Test.YtmpahpnacpfhoaaDoorF
namespace Go.Proofs.YtmpahpnacpfhoaaDoor
open Go.RowKit

theorem byteL_in {l : Bs} {k : Nat} (h : byteL l k ≠ 0) : k < l.length := by
  rcases Nat.lt_or_ge k l.length with h1 | h1
  · exact h1
  · exfalso; apply h; unfold byteL; simp [List.getD, List.getElem?_eq_none h1]
theorem signL_range (l : Bs) (h : 0 < l.length) : 0 ≤ signL l ∧ signL l ≤ 3 ∧ signL l ≤ l.length := by
  have h1 := @byteL_in l 1
  have h2 := @byteL_in l 2
  unfold signL signN
  repeat' split
  all_goals (refine ⟨by omega, by omega, ?_⟩)
  all_goals first | omega | (have := h2 (by omega); omega) | (have := h1 (by omega); omega)

theorem getD_zero (s : ByteArray) (h : 0 < s.size) : s.data.toList.getD 0 0 = s[0] := by
  have := Lib.data_getElem? s 0 h
  simp [List.getD, this]
theorem runLen_pos (s : ByteArray) (h : 0 < s.size) (hd : digitB s[0] = true) : 0 < runLen s.data.toList := by
  have := run_step s 0 h (by simp [wordB, hd])
  simp at this
  omega

set_option maxHeartbeats 1000000 in
theorem read_any (s : ByteArray) (w : World) (h0 : 0 < s.size) (hs : s.size ≤ 20000) (hr : Rdy w) :
    Calls Tryd.prog 19 #[.string s] w fun e w' => e = .returned (readTup (readL s.data.toList)) ∧ Below w.heap.size w w' := by
  have hV : readL s.data.toList = if letterB s[0] then nameL s.data.toList else if digitB s[0] then nmbL s.data.toList else if byteL s.data.toList 0 = 39 then chrL s.data.toList else sgnL s.data.toList := by
    unfold readL; rw [getD_zero s h0]
  have h00 : (0 : Int) < s.size := by omega
  cases hl : letterB s[0] with
  | true =>
    have hc := readName_any s
    rw [hl, if_pos rfl] at hV
    obtain ⟨r, hr2⟩ : ∃ r, r = nameL s.data.toList := ⟨_, rfl⟩
    rw [← hr2] at hc hV
    have HV := Lib.hid hV
    have HC := Lib.hid hc
    clear hV hc hr2 hr
    go_enter Tryd.func19, Tryd.ntmps19
    go_wp2_with (first | (go_at_call 27; refine (isLetter_any _ _).mono ?_; rintro e w' ⟨rfl, rfl⟩) | (go_at_call 28; refine (HC.out _ hs).mono ?_; rintro e w' ⟨rfl, hb⟩; obtain ⟨hq, hf⟩ := bcell hb; have hz := hb.size; simp only [World.size_alloc] at hz; unfold readTup aggT))
    exact bodyPost_ret (v := .tuple #[.agg #[.int .i64 r.1.kind, .int .i64 0, .string ⟨r.1.text.toArray⟩, .int .u32 r.1.num, .bool r.1.uns], .int .i64 r.2.1, .int .i64 r.2.2]) (by simp [results, Tryd.results19, go_sem, hq]) rfl ⟨by rw [HV.out]; rfl, below_put5 (below_new hb) _ _ _ _ _⟩
  | false =>
    rw [hl, if_neg (by simp)] at hV
    cases hd : digitB s[0] with
    | true =>
      have hc := fun w hr => readNumber_any s w (runLen_pos s h0 hd) hs hr
      rw [hd, if_pos rfl] at hV
      obtain ⟨r, hr2⟩ : ∃ r, r = nmbL s.data.toList := ⟨_, rfl⟩
      rw [← hr2] at hc hV
      have HV := Lib.hid hV
      have HC := Lib.hid hc
      have HR := Lib.hid hr
      clear hV hc hr2 hr
      go_enter Tryd.func19, Tryd.ntmps19
      go_wp2_with (first | (go_at_call 27; refine (isLetter_any _ _).mono ?_; rintro e w' ⟨rfl, rfl⟩) | (go_at_call 29; refine (isDigit_any _ _).mono ?_; rintro e w' ⟨rfl, rfl⟩) | (go_at_call 30; refine (HC.out _ (HR.out.below (below_one _ _))).mono ?_; rintro e w' ⟨rfl, hb⟩; obtain ⟨hq, hf⟩ := bcell hb; have hz := hb.size; simp only [World.size_alloc] at hz; unfold readTup aggT))
      exact bodyPost_ret (v := .tuple #[.agg #[.int .i64 r.1.kind, .int .i64 0, .string ⟨r.1.text.toArray⟩, .int .u32 r.1.num, .bool r.1.uns], .int .i64 r.2.1, .int .i64 r.2.2]) (by simp [results, Tryd.results19, go_sem, hq]) rfl ⟨by rw [HV.out]; rfl, below_put5 (below_new hb) _ _ _ _ _⟩
    | false =>
      rw [hd, if_neg (by simp)] at hV
      have hb0 := byteL_of s 0 h0
      by_cases hch : byteL s.data.toList 0 = 39
      · have hc := readCharacter_any s
        rw [if_pos hch] at hV
        obtain ⟨r, hr2⟩ : ∃ r, r = chrL s.data.toList := ⟨_, rfl⟩
        rw [← hr2] at hc hV
        have hbb : (((s[0].toNat : Nat) : Int) == 39) = true := by rw [hb0, hch]; rfl
        have HV := Lib.hid hV
        have HC := Lib.hid hc
        clear hV hc hr2 hr hb0 hch
        go_enter Tryd.func19, Tryd.ntmps19
        go_wp2_with (first | (go_at_call 27; refine (isLetter_any _ _).mono ?_; rintro e w' ⟨rfl, rfl⟩) | (go_at_call 29; refine (isDigit_any _ _).mono ?_; rintro e w' ⟨rfl, rfl⟩) | (go_at_call 31; refine (HC.out _ hs).mono ?_; rintro e w' ⟨rfl, hb⟩; obtain ⟨hq, hf⟩ := bcell hb; have hz := hb.size; simp only [World.size_alloc] at hz; unfold readTup aggT))
        exact bodyPost_ret (v := .tuple #[.agg #[.int .i64 r.1.kind, .int .i64 0, .string ⟨r.1.text.toArray⟩, .int .u32 r.1.num, .bool r.1.uns], .int .i64 r.2.1, .int .i64 r.2.2]) (by simp [results, Tryd.results19, go_sem, hq]) rfl ⟨by rw [HV.out]; rfl, below_put5 (below_new hb) _ _ _ _ _⟩
      · have hc := fun w => signLength_any s w h0
        rw [if_neg hch] at hV
        have hbb : (((s[0].toNat : Nat) : Int) == 39) = false := by rw [hb0, beq_eq_false_iff_ne]; omega
        obtain ⟨hn0, hn3, hnl⟩ := signL_range s.data.toList (by rw [← Lib.size_eq]; exact h0)
        rw [← Lib.size_eq] at hnl
        have hV2 : sgnL s.data.toList = if signL s.data.toList = 0 then (zeroTok, 0, 14) else (⟨4, s.data.toList.take (signL s.data.toList).toNat, 0, false⟩, (signL s.data.toList).toNat, 0) := rfl
        rw [hV2] at hV
        clear hV2
        obtain ⟨n, hn⟩ : ∃ n : Nat, (n : Int) = signL s.data.toList := ⟨(signL s.data.toList).toNat, by omega⟩
        rw [← hn] at hc hV hn0 hn3 hnl
        rw [Int.toNat_natCast] at hV
        by_cases hz0 : n = 0
        · subst hz0
          rw [if_pos (by simp)] at hV
          simp only [Int.natCast_zero] at hc
          have HC := Lib.hid hc
          have HV := Lib.hid hV
          clear hV hc hn hr hb0 hch
          go_enter Tryd.func19, Tryd.ntmps19
          go_wp2_with (first | (go_at_call 27; refine (isLetter_any _ _).mono ?_; rintro e w' ⟨rfl, rfl⟩) | (go_at_call 29; refine (isDigit_any _ _).mono ?_; rintro e w' ⟨rfl, rfl⟩) | (go_at_call 32; refine (HC.out _).mono ?_; rintro e w' ⟨rfl, hb⟩; obtain ⟨hq, hf⟩ := bcell hb; have hz := hb.size; simp only [World.size_alloc] at hz))
          exact bodyPost_ret (v := .tuple #[.agg #[.int .i64 0, .int .i64 0, .string ⟨#[]⟩, .int .u32 0, .bool false], .int .i64 0, .int .i64 14]) (by simp [results, Tryd.results19, go_sem, hq]) rfl ⟨by rw [HV.out]; rfl, below_put5 (below_new hb) _ _ _ _ _⟩
        · rw [if_neg (by omega)] at hV
          have HV := Lib.hid hV
          have HC := Lib.hid hc
          have hx := ext_eq s n
          have hxs : (s.extract 0 n).size ≤ 20000 := by rw [ByteArray.size_extract]; omega
          have HX := Lib.hid hx
          have HK := Lib.hid (fun w => clone_any (s.extract 0 n) w hxs)
          have hne : ((n : Int) == 0) = false := by rw [beq_eq_false_iff_ne]; omega
          clear hV hc hn hr hb0 hch hz0 hx
          go_enter Tryd.func19, Tryd.ntmps19
          go_wp2_with (first | (go_at_call 27; refine (isLetter_any _ _).mono ?_; rintro e w' ⟨rfl, rfl⟩) | (go_at_call 29; refine (isDigit_any _ _).mono ?_; rintro e w' ⟨rfl, rfl⟩) | (go_at_call 32; refine (HC.out _).mono ?_; rintro e w' ⟨rfl, hb⟩; obtain ⟨hq, hf⟩ := bcell hb; have hz := hb.size; simp only [World.size_alloc] at hz; have hz1 : w.heap.size < w'.heap.size := (by omega)) | (go_at_call 33; refine (HK.out _).mono ?_; rintro e w2 ⟨rfl, hb2⟩; obtain ⟨hq2, hf2⟩ := bcell hb2; have hz2 := hb2.size))
          exact bodyPost_ret (v := .tuple #[.agg #[.int .i64 4, .int .i64 0, .string (s.extract 0 n), .int .u32 0, .bool false], .int .i64 n, .int .i64 0]) (by simp [results, Tryd.results19, go_sem, hq, hq2, hz1]) rfl ⟨by rw [HV.out, HX.out]; rfl, below_put5 ((below_new hb).trans (hb2.mono (by omega))) _ _ _ _ _⟩
end Go.Proofs.YtmpahpnacpfhoaaDoor
