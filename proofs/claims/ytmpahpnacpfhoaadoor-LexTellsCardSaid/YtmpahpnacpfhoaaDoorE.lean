/- lex.number: what a run of letters and digits is as a number, for every text of at most 20000 bytes with a byte in it. -/
import Derived.Test.YtmpahpnacpfhoaaDoorD
namespace Go.Proofs.YtmpahpnacpfhoaaDoor
open Go.RowKit

theorem parseU_le (b : Nat) : ∀ (l : Bs) (acc n : Nat), acc ≤ 4294967295 → parseU b acc l = some n → n ≤ 4294967295 := by
  intro l
  induction l with
  | nil => intro acc n h e; simp only [parseU, Option.some.injEq] at e; omega
  | cons c l ih =>
    intro acc n h e
    rw [parseU] at e
    split at e
    · rename_i hc; exact ih _ _ hc.2 e
    · cases e
theorem parseAll_le {b : Nat} {l : Bs} {n : Nat} (h : parseAll b l = some n) : n ≤ 4294967295 := by
  unfold parseAll at h
  split at h
  · cases h
  · exact parseU_le b l 0 n (by omega) h

def numTup : Option (Nat × Bool) → Value
  | some (n, u) => .tuple #[.int .u32 n, .bool u, .bool true]
  | none => .tuple #[.int .u32 0, .bool false, .bool false]

theorem prefix_len {d : ByteArray} {p : Bs} (h : Lib.hasPrefix d.data.toList p = true) : p.length ≤ d.size := by
  unfold Lib.hasPrefix at h
  rw [Lib.size_eq]
  exact (List.isPrefixOf_iff_prefix.1 h).length_le

theorem num_of {l : Bs} {b : Nat} {t : Bs} {m : Bool} (hm : markedL l = m) (hb : baseOf (digitsL l) = b) (ht : bodyOf (digitsL l) = t) : numL l = (parseAll b t).map fun n => (n, m || decide (2147483647 < n)) := by
  unfold numL; rw [hm, hb, ht]

set_option maxHeartbeats 1000000 in
theorem number_x (s : ByteArray) (w : World) (h0 : 0 < s.size) (hs : s.size ≤ 20000) (hr : Rdy w) (hpx : Lib.hasPrefix (cutD s).data.toList [48, 120] = true)   :
    Calls Tryd.prog 46 #[.string s] w fun e w' => e = .returned (numTup (numL s.data.toList)) ∧ Below w.heap.size w w' := by
  have hds := cutD_size s
  have hdl := cutD_list s
  have hcut := cutMark_any s
  have hin : ∀ w, Rdy w → Calls Tryd.prog 56 #[.string ((cutD s).extract 2 (cutD s).size), .int .i64 16, .int .i64 32] w fun e w' => PuEnd2 16 (((cutD s).extract 2 (cutD s).size)).data.toList e ∧ Below w.heap.size w w' :=
    fun w hr => parseUint_of 16 _ (by (try rw [ByteArray.size_extract]); omega) (inner16 _ (by (try rw [ByteArray.size_extract]); omega)) w hr
  obtain ⟨m, hm⟩ : ∃ m, markedL s.data.toList = m := ⟨_, rfl⟩
  have hbase : baseOf (digitsL s.data.toList) = 16 := by rw [← hdl]; unfold baseOf; simp [hpx]
  have hbody : bodyOf (digitsL s.data.toList) = (((cutD s).extract 2 (cutD s).size)).data.toList := by rw [← hdl]; unfold bodyOf; rw [if_pos (by simp [hpx]), Lib.extract_to_end]
  have HV := Lib.hid (num_of hm hbase hbody)
  rw [hm] at hcut
  have hlen := prefix_len hpx
  simp only [List.length_cons, List.length_nil, Nat.zero_add, Nat.reduceAdd] at hlen
  clear hbase hbody hdl hm
  obtain ⟨d, hd⟩ : ∃ d, d = cutD s := ⟨_, rfl⟩
  rw [← hd] at hcut hin hpx hds HV hlen
  have H1 : Hid (∀ w, Calls Tryd.prog 24 #[.string d, .string ⟨#[48, 120]⟩] w fun e w' => e = .returned (.bool true) ∧ w = w') := Lib.hid fun w => (hasPrefix_any d ⟨#[48, 120]⟩ w).mono fun _ _ ⟨a, b⟩ => ⟨a.trans (ret_bool hpx), b⟩
  skip
  skip
  have HC := Lib.hid hcut
  have HP := Lib.hid hin
  have HR := Lib.hid hr
  clear hcut hin hr hpx hd 
  go_enter Tryd.func46, Tryd.ntmps46
  go_wp2_with (first | (go_at_call 55; refine (HC.out _ h0 hs).mono ?_; rintro e w' ⟨rfl, rfl⟩) | (go_at_call 24; with_reducible refine (H1.out _).mono ?_; rintro e w' ⟨rfl, rfl⟩))
  refine (HP.out _ HR.out).mono ?_
  rintro e w' ⟨hpu, hb⟩
  rcases hpu with ⟨n, hn, rfl⟩ | ⟨hn, x, p, rfl⟩
  · have hle := parseAll_le hn
    have HN : Hid (numL s.data.toList = some (n, m || decide (2147483647 < n))) := Lib.hid (by rw [HV.out, hn]; rfl)
    clear hn
    cases m
    all_goals by_cases hbig : 2147483647 < n
    all_goals go_wp2
    all_goals go_ret3
    all_goals refine ⟨?_, hb⟩
    all_goals rw [HN.out]
    all_goals first | (simp [numTup, hbig]; done) | (simp [numTup, hbig]; omega)
  · have HN : Hid (numL s.data.toList = none) := Lib.hid (by rw [HV.out, hn]; rfl)
    clear hn
    go_wp2
    go_ret3
    exact ⟨by rw [HN.out]; rfl, hb⟩

set_option maxHeartbeats 1000000 in
theorem number_X (s : ByteArray) (w : World) (h0 : 0 < s.size) (hs : s.size ≤ 20000) (hr : Rdy w) (hpx : Lib.hasPrefix (cutD s).data.toList [48, 120] = false) (hpX : Lib.hasPrefix (cutD s).data.toList [48, 88] = true)  :
    Calls Tryd.prog 46 #[.string s] w fun e w' => e = .returned (numTup (numL s.data.toList)) ∧ Below w.heap.size w w' := by
  have hds := cutD_size s
  have hdl := cutD_list s
  have hcut := cutMark_any s
  have hin : ∀ w, Rdy w → Calls Tryd.prog 56 #[.string ((cutD s).extract 2 (cutD s).size), .int .i64 16, .int .i64 32] w fun e w' => PuEnd2 16 (((cutD s).extract 2 (cutD s).size)).data.toList e ∧ Below w.heap.size w w' :=
    fun w hr => parseUint_of 16 _ (by (try rw [ByteArray.size_extract]); omega) (inner16 _ (by (try rw [ByteArray.size_extract]); omega)) w hr
  obtain ⟨m, hm⟩ : ∃ m, markedL s.data.toList = m := ⟨_, rfl⟩
  have hbase : baseOf (digitsL s.data.toList) = 16 := by rw [← hdl]; unfold baseOf; simp [hpx, hpX]
  have hbody : bodyOf (digitsL s.data.toList) = (((cutD s).extract 2 (cutD s).size)).data.toList := by rw [← hdl]; unfold bodyOf; rw [if_pos (by simp [hpx, hpX]), Lib.extract_to_end]
  have HV := Lib.hid (num_of hm hbase hbody)
  rw [hm] at hcut
  have hlen := prefix_len hpX
  simp only [List.length_cons, List.length_nil, Nat.zero_add, Nat.reduceAdd] at hlen
  clear hbase hbody hdl hm
  obtain ⟨d, hd⟩ : ∃ d, d = cutD s := ⟨_, rfl⟩
  rw [← hd] at hcut hin hpx hds HV hpX hlen
  have H1 : Hid (∀ w, Calls Tryd.prog 24 #[.string d, .string ⟨#[48, 120]⟩] w fun e w' => e = .returned (.bool false) ∧ w = w') := Lib.hid fun w => (hasPrefix_any d ⟨#[48, 120]⟩ w).mono fun _ _ ⟨a, b⟩ => ⟨a.trans (ret_bool hpx), b⟩
  have H2 : Hid (∀ w, Calls Tryd.prog 24 #[.string d, .string ⟨#[48, 88]⟩] w fun e w' => e = .returned (.bool true) ∧ w = w') := Lib.hid fun w => (hasPrefix_any d ⟨#[48, 88]⟩ w).mono fun _ _ ⟨a, b⟩ => ⟨a.trans (ret_bool hpX), b⟩
  skip
  have HC := Lib.hid hcut
  have HP := Lib.hid hin
  have HR := Lib.hid hr
  clear hcut hin hr hpx hd hpX
  go_enter Tryd.func46, Tryd.ntmps46
  go_wp2_with (first | (go_at_call 55; refine (HC.out _ h0 hs).mono ?_; rintro e w' ⟨rfl, rfl⟩) | (go_at_call 24; with_reducible refine (H1.out _).mono ?_; rintro e w' ⟨rfl, rfl⟩) | (go_at_call 24; with_reducible refine (H2.out _).mono ?_; rintro e w' ⟨rfl, rfl⟩))
  refine (HP.out _ HR.out).mono ?_
  rintro e w' ⟨hpu, hb⟩
  rcases hpu with ⟨n, hn, rfl⟩ | ⟨hn, x, p, rfl⟩
  · have hle := parseAll_le hn
    have HN : Hid (numL s.data.toList = some (n, m || decide (2147483647 < n))) := Lib.hid (by rw [HV.out, hn]; rfl)
    clear hn
    cases m
    all_goals by_cases hbig : 2147483647 < n
    all_goals go_wp2
    all_goals go_ret3
    all_goals refine ⟨?_, hb⟩
    all_goals rw [HN.out]
    all_goals first | (simp [numTup, hbig]; done) | (simp [numTup, hbig]; omega)
  · have HN : Hid (numL s.data.toList = none) := Lib.hid (by rw [HV.out, hn]; rfl)
    clear hn
    go_wp2
    go_ret3
    exact ⟨by rw [HN.out]; rfl, hb⟩

set_option maxHeartbeats 1000000 in
theorem number_o (s : ByteArray) (w : World) (h0 : 0 < s.size) (hs : s.size ≤ 20000) (hr : Rdy w) (hpx : Lib.hasPrefix (cutD s).data.toList [48, 120] = false) (hpX : Lib.hasPrefix (cutD s).data.toList [48, 88] = false) (hp0 : Lib.hasPrefix (cutD s).data.toList [48] = true) :
    Calls Tryd.prog 46 #[.string s] w fun e w' => e = .returned (numTup (numL s.data.toList)) ∧ Below w.heap.size w w' := by
  have hds := cutD_size s
  have hdl := cutD_list s
  have hcut := cutMark_any s
  have hin : ∀ w, Rdy w → Calls Tryd.prog 56 #[.string (cutD s), .int .i64 8, .int .i64 32] w fun e w' => PuEnd2 8 ((cutD s)).data.toList e ∧ Below w.heap.size w w' :=
    fun w hr => parseUint_of 8 _ (by (try rw [ByteArray.size_extract]); omega) (inner8 _ (by (try rw [ByteArray.size_extract]); omega)) w hr
  obtain ⟨m, hm⟩ : ∃ m, markedL s.data.toList = m := ⟨_, rfl⟩
  have hbase : baseOf (digitsL s.data.toList) = 8 := by rw [← hdl]; unfold baseOf; simp [hpx, hpX, hp0]
  have hbody : bodyOf (digitsL s.data.toList) = ((cutD s)).data.toList := by rw [← hdl]; unfold bodyOf; rw [if_neg (by simp [hpx, hpX])]
  have HV := Lib.hid (num_of hm hbase hbody)
  rw [hm] at hcut
  skip
  clear hbase hbody hdl hm
  obtain ⟨d, hd⟩ : ∃ d, d = cutD s := ⟨_, rfl⟩
  rw [← hd] at hcut hin hpx hds HV hpX hp0
  have H1 : Hid (∀ w, Calls Tryd.prog 24 #[.string d, .string ⟨#[48, 120]⟩] w fun e w' => e = .returned (.bool false) ∧ w = w') := Lib.hid fun w => (hasPrefix_any d ⟨#[48, 120]⟩ w).mono fun _ _ ⟨a, b⟩ => ⟨a.trans (ret_bool hpx), b⟩
  have H2 : Hid (∀ w, Calls Tryd.prog 24 #[.string d, .string ⟨#[48, 88]⟩] w fun e w' => e = .returned (.bool false) ∧ w = w') := Lib.hid fun w => (hasPrefix_any d ⟨#[48, 88]⟩ w).mono fun _ _ ⟨a, b⟩ => ⟨a.trans (ret_bool hpX), b⟩
  have H3 : Hid (∀ w, Calls Tryd.prog 24 #[.string d, .string ⟨#[48]⟩] w fun e w' => e = .returned (.bool true) ∧ w = w') := Lib.hid fun w => (hasPrefix_any d ⟨#[48]⟩ w).mono fun _ _ ⟨a, b⟩ => ⟨a.trans (ret_bool hp0), b⟩
  have HC := Lib.hid hcut
  have HP := Lib.hid hin
  have HR := Lib.hid hr
  clear hcut hin hr hpx hd hpX hp0
  go_enter Tryd.func46, Tryd.ntmps46
  go_wp2_with (first | (go_at_call 55; refine (HC.out _ h0 hs).mono ?_; rintro e w' ⟨rfl, rfl⟩) | (go_at_call 24; with_reducible refine (H1.out _).mono ?_; rintro e w' ⟨rfl, rfl⟩) | (go_at_call 24; with_reducible refine (H2.out _).mono ?_; rintro e w' ⟨rfl, rfl⟩) | (go_at_call 24; with_reducible refine (H3.out _).mono ?_; rintro e w' ⟨rfl, rfl⟩))
  refine (HP.out _ HR.out).mono ?_
  rintro e w' ⟨hpu, hb⟩
  rcases hpu with ⟨n, hn, rfl⟩ | ⟨hn, x, p, rfl⟩
  · have hle := parseAll_le hn
    have HN : Hid (numL s.data.toList = some (n, m || decide (2147483647 < n))) := Lib.hid (by rw [HV.out, hn]; rfl)
    clear hn
    cases m
    all_goals by_cases hbig : 2147483647 < n
    all_goals go_wp2
    all_goals go_ret3
    all_goals refine ⟨?_, hb⟩
    all_goals rw [HN.out]
    all_goals first | (simp [numTup, hbig]; done) | (simp [numTup, hbig]; omega)
  · have HN : Hid (numL s.data.toList = none) := Lib.hid (by rw [HV.out, hn]; rfl)
    clear hn
    go_wp2
    go_ret3
    exact ⟨by rw [HN.out]; rfl, hb⟩

set_option maxHeartbeats 1000000 in
theorem number_d (s : ByteArray) (w : World) (h0 : 0 < s.size) (hs : s.size ≤ 20000) (hr : Rdy w) (hpx : Lib.hasPrefix (cutD s).data.toList [48, 120] = false) (hpX : Lib.hasPrefix (cutD s).data.toList [48, 88] = false) (hp0 : Lib.hasPrefix (cutD s).data.toList [48] = false) :
    Calls Tryd.prog 46 #[.string s] w fun e w' => e = .returned (numTup (numL s.data.toList)) ∧ Below w.heap.size w w' := by
  have hds := cutD_size s
  have hdl := cutD_list s
  have hcut := cutMark_any s
  have hin : ∀ w, Rdy w → Calls Tryd.prog 56 #[.string (cutD s), .int .i64 10, .int .i64 32] w fun e w' => PuEnd2 10 ((cutD s)).data.toList e ∧ Below w.heap.size w w' :=
    fun w hr => parseUint_of 10 _ (by (try rw [ByteArray.size_extract]); omega) (inner10 _ (by (try rw [ByteArray.size_extract]); omega)) w hr
  obtain ⟨m, hm⟩ : ∃ m, markedL s.data.toList = m := ⟨_, rfl⟩
  have hbase : baseOf (digitsL s.data.toList) = 10 := by rw [← hdl]; unfold baseOf; simp [hpx, hpX, hp0]
  have hbody : bodyOf (digitsL s.data.toList) = ((cutD s)).data.toList := by rw [← hdl]; unfold bodyOf; rw [if_neg (by simp [hpx, hpX])]
  have HV := Lib.hid (num_of hm hbase hbody)
  rw [hm] at hcut
  skip
  clear hbase hbody hdl hm
  obtain ⟨d, hd⟩ : ∃ d, d = cutD s := ⟨_, rfl⟩
  rw [← hd] at hcut hin hpx hds HV hpX hp0
  have H1 : Hid (∀ w, Calls Tryd.prog 24 #[.string d, .string ⟨#[48, 120]⟩] w fun e w' => e = .returned (.bool false) ∧ w = w') := Lib.hid fun w => (hasPrefix_any d ⟨#[48, 120]⟩ w).mono fun _ _ ⟨a, b⟩ => ⟨a.trans (ret_bool hpx), b⟩
  have H2 : Hid (∀ w, Calls Tryd.prog 24 #[.string d, .string ⟨#[48, 88]⟩] w fun e w' => e = .returned (.bool false) ∧ w = w') := Lib.hid fun w => (hasPrefix_any d ⟨#[48, 88]⟩ w).mono fun _ _ ⟨a, b⟩ => ⟨a.trans (ret_bool hpX), b⟩
  have H3 : Hid (∀ w, Calls Tryd.prog 24 #[.string d, .string ⟨#[48]⟩] w fun e w' => e = .returned (.bool false) ∧ w = w') := Lib.hid fun w => (hasPrefix_any d ⟨#[48]⟩ w).mono fun _ _ ⟨a, b⟩ => ⟨a.trans (ret_bool hp0), b⟩
  have HC := Lib.hid hcut
  have HP := Lib.hid hin
  have HR := Lib.hid hr
  clear hcut hin hr hpx hd hpX hp0
  go_enter Tryd.func46, Tryd.ntmps46
  go_wp2_with (first | (go_at_call 55; refine (HC.out _ h0 hs).mono ?_; rintro e w' ⟨rfl, rfl⟩) | (go_at_call 24; with_reducible refine (H1.out _).mono ?_; rintro e w' ⟨rfl, rfl⟩) | (go_at_call 24; with_reducible refine (H2.out _).mono ?_; rintro e w' ⟨rfl, rfl⟩) | (go_at_call 24; with_reducible refine (H3.out _).mono ?_; rintro e w' ⟨rfl, rfl⟩))
  refine (HP.out _ HR.out).mono ?_
  rintro e w' ⟨hpu, hb⟩
  rcases hpu with ⟨n, hn, rfl⟩ | ⟨hn, x, p, rfl⟩
  · have hle := parseAll_le hn
    have HN : Hid (numL s.data.toList = some (n, m || decide (2147483647 < n))) := Lib.hid (by rw [HV.out, hn]; rfl)
    clear hn
    cases m
    all_goals by_cases hbig : 2147483647 < n
    all_goals go_wp2
    all_goals go_ret3
    all_goals refine ⟨?_, hb⟩
    all_goals rw [HN.out]
    all_goals first | (simp [numTup, hbig]; done) | (simp [numTup, hbig]; omega)
  · have HN : Hid (numL s.data.toList = none) := Lib.hid (by rw [HV.out, hn]; rfl)
    clear hn
    go_wp2
    go_ret3
    exact ⟨by rw [HN.out]; rfl, hb⟩

theorem number_any (s : ByteArray) (w : World) (h0 : 0 < s.size) (hs : s.size ≤ 20000) (hr : Rdy w) :
    Calls Tryd.prog 46 #[.string s] w fun e w' => e = .returned (numTup (numL s.data.toList)) ∧ Below w.heap.size w w' := by
  cases hx : Lib.hasPrefix (cutD s).data.toList [48, 120] with
  | true => exact number_x s w h0 hs hr hx
  | false =>
    cases hX : Lib.hasPrefix (cutD s).data.toList [48, 88] with
    | true => exact number_X s w h0 hs hr hx hX
    | false =>
      cases hz : Lib.hasPrefix (cutD s).data.toList [48] with
      | true => exact number_o s w h0 hs hr hx hX hz
      | false => exact number_d s w h0 hs hr hx hX hz
end Go.Proofs.YtmpahpnacpfhoaaDoor
