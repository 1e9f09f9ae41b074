/- The functions of package lex that make one token: what each returns, for every text of at most 20000 bytes with a byte in it. -/
import Derived.Test.YtmpahpnacpfhoaaDoorE
namespace Go.Proofs.YtmpahpnacpfhoaaDoor
open Go.RowKit

def aggT (t : Tok) (a : Int) : Value := .agg #[.int .i64 t.kind, .int .i64 a, .string ⟨t.text.toArray⟩, .int .u32 t.num, .bool t.uns]
def readTup (r : Tok × Nat × Nat) : Value := .tuple #[aggT r.1 0, .int .i64 r.2.1, .int .i64 r.2.2]

theorem runLen_le (s : ByteArray) : runLen s.data.toList ≤ s.size := by
  unfold runLen; rw [Lib.size_eq]; exact (List.takeWhile_sublist _).length_le
theorem ext_eq (s : ByteArray) (n : Nat) : s.extract 0 n = ⟨(s.data.toList.take n).toArray⟩ := by
  have h : (s.extract 0 n).data.toList = s.data.toList.take n := by rw [Lib.extract_data]; simp
  have h2 : (s.extract 0 n).data = (s.data.toList.take n).toArray := by rw [← h]
  rw [← h2]

theorem bcell {W w1 : World} (hb : Below W.heap.size W w1) : (∀ b o, b < W.heap.size → w1.cell? ⟨b, o, none⟩ = W.cell? ⟨b, o, none⟩) ∧ (∀ b o, b < W.heap.size → w1.frozen? ⟨b, o, none⟩ = W.frozen? ⟨b, o, none⟩) :=
  ⟨fun b o h => hb.cell (p := ⟨b, o, none⟩) h, fun b o h => hb.frozen (p := ⟨b, o, none⟩) h⟩
theorem below_new {w w' : World} {o : Obj} (hb : Below (w.alloc o).heap.size (w.alloc o) w') : Below w.heap.size w w' :=
  ((Below.refl _ _).alloc (Nat.le_refl _) o).trans (hb.mono (by rw [World.size_alloc]; omega))
theorem below_put5 {w w' : World} (h : Below w.heap.size w w') (a b c d e : Value) :
    Below w.heap.size w (((((w'.setCell ⟨w.heap.size, 0, none⟩ a).setCell ⟨w.heap.size, 1, none⟩ b).setCell ⟨w.heap.size, 2, none⟩ c).setCell ⟨w.heap.size, 3, none⟩ d).setCell ⟨w.heap.size, 4, none⟩ e) :=
  ((((h.setCell (Nat.le_refl _) a).setCell (Nat.le_refl _) b).setCell (Nat.le_refl _) c).setCell (Nat.le_refl _) d).setCell (Nat.le_refl _) e
theorem below_one (w : World) (o : Obj) : Below w.heap.size w (w.alloc o) := (Below.refl _ _).alloc (Nat.le_refl _) o

set_option maxHeartbeats 1000000 in
theorem readName_any (s : ByteArray) (w : World) (hs : s.size ≤ 20000) :
    Calls Tryd.prog 28 #[.string s] w fun e w' => e = .returned (readTup (nameL s.data.toList)) ∧ Below w.heap.size w w' := by
  have hle := runLen_le s
  have hrl := runLength_any s
  obtain ⟨n, hn⟩ : ∃ n, n = runLen s.data.toList := ⟨_, rfl⟩
  have hx := ext_eq s n
  have hxs : (s.extract 0 n).size ≤ 20000 := by rw [ByteArray.size_extract]; omega
  have hxl : (s.extract 0 n).data.toList = s.data.toList.take n := by rw [hx]
  have hw := isWord_any (s.extract 0 n)
  have hc := fun w => clone_any (s.extract 0 n) w hxs
  rw [hxl] at hw
  have hV : nameL s.data.toList = if isWordL (s.data.toList.take n) then (⟨3, s.data.toList.take n, 0, false⟩, n, 0) else if 31 < n then (zeroTok, 0, 10) else (⟨1, s.data.toList.take n, 0, false⟩, n, 0) := by rw [hn]; rfl
  rw [← hn] at hle hrl
  have HX := Lib.hid hx
  have HC := Lib.hid hc
  clear hx hxl hc hn
  cases hword : isWordL (s.data.toList.take n) with
  | true =>
    rw [hword] at hw
    rw [if_pos hword] at hV
    have HV := Lib.hid hV
    have HW := Lib.hid hw
    have HL := Lib.hid hrl
    clear hV hw hrl hword
    go_enter Tryd.func28, Tryd.ntmps28
    go_wp2_with (first | (go_at_call 44; refine (HL.out _ hs).mono ?_; rintro e w' ⟨rfl, rfl⟩) | (go_at_call 45; refine (HW.out _).mono ?_; rintro e w' ⟨rfl, rfl⟩) | (go_at_call 33; refine (HC.out _).mono ?_; rintro e w' ⟨rfl, hb⟩; obtain ⟨hq, hf⟩ := bcell hb; have hz := hb.size; simp only [World.size_alloc] at hz))
    exact bodyPost_ret (v := .tuple #[.agg #[.int .i64 3, .int .i64 0, .string (s.extract 0 n), .int .u32 0, .bool false], .int .i64 n, .int .i64 0]) (by simp [results, Tryd.results28, go_sem, hq]) rfl ⟨by rw [HV.out, HX.out]; rfl, below_put5 (below_new hb) _ _ _ _ _⟩
  | false =>
    rw [hword] at hw
    rw [if_neg (by rw [hword]; simp)] at hV
    have HW := Lib.hid hw
    have HL := Lib.hid hrl
    clear hw hrl hword
    by_cases h31 : 31 < n
    · rw [if_pos h31] at hV
      have HV := Lib.hid hV
      clear hV
      go_enter Tryd.func28, Tryd.ntmps28
      go_wp2_with (first | (go_at_call 44; refine (HL.out _ hs).mono ?_; rintro e w' ⟨rfl, rfl⟩) | (go_at_call 45; refine (HW.out _).mono ?_; rintro e w' ⟨rfl, rfl⟩))
      exact bodyPost_ret (v := .tuple #[.agg #[.int .i64 0, .int .i64 0, .string ⟨#[]⟩, .int .u32 0, .bool false], .int .i64 0, .int .i64 10]) (by simp [results, Tryd.results28, go_sem]) rfl ⟨by rw [HV.out]; rfl, below_one _ _⟩
    · rw [if_neg h31] at hV
      have HV := Lib.hid hV
      clear hV
      go_enter Tryd.func28, Tryd.ntmps28
      go_wp2_with (first | (go_at_call 44; refine (HL.out _ hs).mono ?_; rintro e w' ⟨rfl, rfl⟩) | (go_at_call 45; refine (HW.out _).mono ?_; rintro e w' ⟨rfl, rfl⟩) | (go_at_call 33; refine (HC.out _).mono ?_; rintro e w' ⟨rfl, hb⟩; obtain ⟨hq, hf⟩ := bcell hb; have hz := hb.size; simp only [World.size_alloc] at hz))
      exact bodyPost_ret (v := .tuple #[.agg #[.int .i64 1, .int .i64 0, .string (s.extract 0 n), .int .u32 0, .bool false], .int .i64 n, .int .i64 0]) (by simp [results, Tryd.results28, go_sem, hq]) rfl ⟨by rw [HV.out, HX.out]; rfl, below_put5 (below_new hb) _ _ _ _ _⟩

set_option maxHeartbeats 1000000 in
theorem readNumber_any (s : ByteArray) (w : World) (h0 : 0 < runLen s.data.toList) (hs : s.size ≤ 20000) (hr : Rdy w) :
    Calls Tryd.prog 30 #[.string s] w fun e w' => e = .returned (readTup (nmbL s.data.toList)) ∧ Below w.heap.size w w' := by
  have hle := runLen_le s
  have hrl := runLength_any s
  have hV : nmbL s.data.toList = match numL (s.data.toList.take (runLen s.data.toList)) with | some (n, u) => (⟨2, [], n, u⟩, runLen s.data.toList, 0) | none => (zeroTok, 0, 11) := rfl
  obtain ⟨n, hn⟩ : ∃ n, n = runLen s.data.toList := ⟨_, rfl⟩
  rw [← hn] at hle hrl h0 hV
  have hx := ext_eq s n
  have hxs : (s.extract 0 n).size ≤ 20000 := by rw [ByteArray.size_extract]; omega
  have hx0 : 0 < (s.extract 0 n).size := by rw [ByteArray.size_extract]; omega
  have hxl : (s.extract 0 n).data.toList = s.data.toList.take n := by rw [hx]
  have hc := fun w hr => number_any (s.extract 0 n) w hx0 hxs hr
  rw [hxl] at hc
  have HL := Lib.hid hrl
  have HR := Lib.hid hr
  clear hx hxl hn hrl hr
  cases hnum : numL (s.data.toList.take n) with
  | none =>
    rw [hnum] at hV hc
    simp only [numTup] at hc
    have HC := Lib.hid hc
    have HV := Lib.hid hV
    clear hV hnum hc
    go_enter Tryd.func30, Tryd.ntmps30
    go_wp2_with (first | (go_at_call 44; refine (HL.out _ hs).mono ?_; rintro e w' ⟨rfl, rfl⟩) | (go_at_call 46; refine (HC.out _ (HR.out.below (below_one _ _))).mono ?_; rintro e w' ⟨rfl, hb⟩; obtain ⟨hq, hf⟩ := bcell hb; have hz := hb.size; simp only [World.size_alloc] at hz))
    exact bodyPost_ret (v := .tuple #[.agg #[.int .i64 0, .int .i64 0, .string ⟨#[]⟩, .int .u32 0, .bool false], .int .i64 0, .int .i64 11]) (by simp [results, Tryd.results30, go_sem, hq]) rfl ⟨by rw [HV.out]; rfl, below_put5 (below_new hb) _ _ _ _ _⟩
  | some r =>
    obtain ⟨x, u⟩ := r
    rw [hnum] at hV hc
    simp only [numTup] at hc
    have HC := Lib.hid hc
    have HV := Lib.hid hV
    clear hV hnum hc
    go_enter Tryd.func30, Tryd.ntmps30
    go_wp2_with (first | (go_at_call 44; refine (HL.out _ hs).mono ?_; rintro e w' ⟨rfl, rfl⟩) | (go_at_call 46; refine (HC.out _ (HR.out.below (below_one _ _))).mono ?_; rintro e w' ⟨rfl, hb⟩; obtain ⟨hq, hf⟩ := bcell hb; have hz := hb.size; simp only [World.size_alloc] at hz))
    exact bodyPost_ret (v := .tuple #[.agg #[.int .i64 2, .int .i64 0, .string ⟨#[]⟩, .int .u32 x, .bool u], .int .i64 n, .int .i64 0]) (by simp [results, Tryd.results30, go_sem, hq]) rfl ⟨by rw [HV.out]; rfl, below_put5 (below_new hb) _ _ _ _ _⟩

theorem byteL_le (l : Bs) (k : Nat) : byteL l k ≤ 255 := by
  unfold byteL
  have := (l.getD k 0).toNat_lt
  omega
theorem escN_range (n : Int) (h : 0 ≤ n ∧ n ≤ 255) : 0 ≤ (escN n).1 ∧ (escN n).1 ≤ 255 := by
  unfold escN
  repeat' split
  all_goals (simp only []; omega)
theorem charL_range (l : Bs) : (0 ≤ (charL l).1 ∧ (charL l).1 ≤ 255) ∧ 0 ≤ (charL l).2 ∧ (charL l).2 ≤ 4 := by
  have h1 := byteL_le l 1
  have h2 := escN_range (byteL l 2) ⟨by omega, by have := byteL_le l 2; omega⟩
  unfold charL
  repeat' split
  all_goals (simp only []; omega)

set_option maxHeartbeats 1000000 in
theorem readCharacter_any (s : ByteArray) (w : World) (hs : s.size ≤ 20000) :
    Calls Tryd.prog 31 #[.string s] w fun e w' => e = .returned (readTup (chrL s.data.toList)) ∧ Below w.heap.size w w' := by
  have hc := character_any s
  have hrg := charL_range s.data.toList
  have hV : chrL s.data.toList = if (charL s.data.toList).2 = 0 then (zeroTok, 0, 12) else (⟨2, [], (charL s.data.toList).1.toNat, false⟩, (charL s.data.toList).2.toNat, 0) := rfl
  obtain ⟨x, hx⟩ : ∃ x, x = (charL s.data.toList).1 := ⟨_, rfl⟩
  obtain ⟨n, hn⟩ : ∃ n, n = (charL s.data.toList).2 := ⟨_, rfl⟩
  rw [← hx, ← hn] at hc hrg hV
  obtain ⟨⟨hx0, hx1⟩, hn0, hn1⟩ := hrg
  have HC := Lib.hid hc
  clear hc hx hn
  by_cases h : n = 0
  · rw [if_pos h] at hV
    have HV := Lib.hid hV
    clear hV
    subst h
    go_enter Tryd.func31, Tryd.ntmps31
    go_wp2_with (go_at_call 47; refine (HC.out _ hs).mono ?_; rintro e w' ⟨rfl, rfl⟩)
    exact bodyPost_ret (v := .tuple #[.agg #[.int .i64 0, .int .i64 0, .string ⟨#[]⟩, .int .u32 0, .bool false], .int .i64 0, .int .i64 12]) (by simp [results, Tryd.results31, go_sem]) rfl ⟨by rw [HV.out]; rfl, below_one _ _⟩
  · rw [if_neg h] at hV
    have HV := Lib.hid hV
    have hne : (n == 0) = false := by simpa using h
    clear hV h
    go_enter Tryd.func31, Tryd.ntmps31
    go_wp2_with (go_at_call 47; refine (HC.out _ hs).mono ?_; rintro e w' ⟨rfl, rfl⟩)
    exact bodyPost_ret (v := .tuple #[.agg #[.int .i64 2, .int .i64 0, .string ⟨#[]⟩, .int .u32 x, .bool false], .int .i64 n, .int .i64 0]) (by simp [results, Tryd.results31, go_sem]) rfl ⟨by rw [HV.out]; simp [readTup, aggT, Int.toNat_of_nonneg hx0, Int.toNat_of_nonneg hn0], below_one _ _⟩
end Go.Proofs.YtmpahpnacpfhoaaDoor
