/- The word behind, an input's byte, the instruction at the place. No condition. -/
import Derived.Test.YtjbiikbmbacjkaaDoorBb
import Derived.Deep.RegionWith
namespace Go.Proofs.YtjbiikbmbacjkaaDoor.Emu
open Go.RowKit Go.Proofs.YtjbiikbmbacjkaaDoor.Enc Go.Proofs.YtjbiikbmbacjkaaDoor.Graph

section
variable {x : Fz} {E : Env} {wk : Nat → Value} {w w' : World} {m : M} {ad buf back : Value} {pg : Nat → Option Nat}
theorem drop_one (c : UInt8) (t : List UInt8) : (⟨(c :: t).toArray⟩ : ByteArray).extract 1 (t.length + 1) = ⟨t.toArray⟩ := by
  apply ByteArray.ext
  simp [ByteArray.data_extract]
def u64 (p : Int) : Int := p % 18446744073709551616
theorem u64_lt {p : Int} {n : Nat} (hn : n ≤ 65536) (hp : -9223372036854775808 ≤ p ∧ p < 9223372036854775807) : u64 p < n ↔ 0 ≤ p ∧ p < n := by
  unfold u64; omega
/-- The word behind: read, and the place goes on; or the trap, and nothing has changed. -/
def BehindPost (x : Fz) (E : Env) (wk : Nat → Value) (w w' : World) (m : M) (ad buf back : Value) (pg : Nat → Option Nat) (e : Ending) (w2 : World) : Prop :=
  ((0 ≤ m.place ∧ m.place < E.words.length) ∧ e = .returned (.int .u32 (E.words.getD m.place.toNat 0)) ∧ St x E wk w w2 { m with place := m.place + 1 } ad buf back pg) ∨
  (¬ (0 ≤ m.place ∧ m.place < E.words.length) ∧ e = thrown 5 ∧ w2 = w')
set_option maxHeartbeats 4000000 in
set_option maxRecDepth 100000 in
theorem behind_prog (h : St x E wk w w' m ad buf back pg) (hE : E.words.length ≤ 65536) (hp : -4611686018427387904 ≤ m.place ∧ m.place < 4611686018427387904) :
    Calls Tryd.prog 73 #[.pointer (some ⟨x.bm, 0, none⟩)] w' (BehindPost x E wk w w' m ad buf back pg) := by
  have HW := Lib.hid (word_prog h hE (u64 m.place) (by unfold u64; omega))
  have hu := u64_lt hE ⟨by omega, by omega⟩ (p := m.place)
  obtain ⟨c19, f19⟩ := h.cell (k := 19) (by decide)
  change _ = some (Value.int .i64 m.place) at c19
  have H2 := Lib.hid (h.setPlace (m.place + 1))
  by_cases hlt : 0 ≤ m.place ∧ m.place < E.words.length
  · have h5 : u64 m.place = m.place := by unfold u64; omega
    have h6 : IntKind.i64.wrap (m.place + 1) = m.place + 1 := by rw [IntKind.wrap_i64]; omega
    have HP := Lib.hid (show ∀ e w2, (e = Ending.returned (.int .u32 (E.words.getD m.place.toNat 0)) ∧ w2 = w'.setCell ⟨x.bm, 19, none⟩ (.int .i64 (m.place + 1))) → BehindPost x E wk w w' m ad buf back pg e w2 from fun e w2 he => .inl ⟨hlt, he.1, by rw [he.2]; exact H2.out⟩)
    have HQ := Lib.hid (show ∀ e w2, WordPost E (u64 m.place) w' e w2 → e = Ending.returned (.int .u32 (E.words.getD m.place.toNat 0)) ∧ w2 = w' from fun e w2 he => ⟨by have := he.1 (hu.2 hlt); rw [h5] at this; exact this, he.2.2⟩)
    have i0 : u64 m.place = m.place % 18446744073709551616 := rfl
    rw [i0] at HW HQ
    generalize E.words.getD m.place.toNat 0 = u at *
    generalize m.place = p at *
    clear h hu h5 i0 hlt
    refine Calls.mono ?_ HP.out
    go_enter Tryd.func73, Tryd.ntmps73
    go_wp2_with (go_at_call 102; refine HW.out.mono ?_; intro e w1 hw1; obtain ⟨rfl, rfl⟩ := HQ.out e w1 hw1)
    go_ret
    exact ⟨rfl, rfl⟩
  · have HP := Lib.hid (show ∀ e w2, (e = thrown 5 ∧ w2 = w') → BehindPost x E wk w w' m ad buf back pg e w2 from fun e w2 he => .inr ⟨hlt, he.1, he.2⟩)
    have HQ := Lib.hid (show ∀ e w2, WordPost E (u64 m.place) w' e w2 → e = thrown 5 ∧ w2 = w' from fun e w2 he => ⟨he.2.1 (fun h => hlt (hu.1 h)), he.2.2⟩)
    have i0 : u64 m.place = m.place % 18446744073709551616 := rfl
    rw [i0] at HW HQ
    generalize m.place = p at *
    clear h hu i0 hlt
    refine Calls.mono ?_ HP.out
    go_enter Tryd.func73, Tryd.ntmps73
    go_wp2_with (go_at_call 102; refine HW.out.mono ?_; intro e w1 hw1; obtain ⟨rfl, rfl⟩ := HQ.out e w1 hw1)
    exact ⟨rfl, rfl, rfl⟩
set_option maxHeartbeats 4000000 in
set_option maxRecDepth 100000 in
theorem getc_prog (h : St x E wk w w' m ad buf back pg) (hl : E.input.length ≤ 10000) :
    Calls Tryd.prog 76 #[.pointer (some ⟨x.bm, 0, none⟩)] w' fun e w2 =>
      match E.input[m.at_]? with
      | none => e = .returned (.int .u32 4294967295) ∧ w2 = w'
      | some c => e = .returned (.int .u32 c.toNat) ∧ St x E wk w w2 { m with at_ := m.at_ + 1 } ad buf back pg := by
  obtain ⟨c15, f15⟩ := h.cell (k := 15) (by decide)
  change _ = some (Value.string ⟨(E.input.drop m.at_).toArray⟩) at c15
  have H2 := Lib.hid (h.setIn (m.at_ + 1))
  cases hin : E.input[m.at_]? with
  | none =>
    have e0 : E.input.drop m.at_ = [] := by
      rw [List.getElem?_eq_none_iff] at hin
      exact List.drop_eq_nil_of_le hin
    rw [e0] at c15
    clear h hin H2
    go_enter Tryd.func76, Tryd.ntmps76
    go_wp2
    go_ret
    exact ⟨rfl, rfl⟩
  | some c =>
    obtain ⟨t, ht⟩ : ∃ t, E.input.drop m.at_ = c :: t ∧ E.input.drop (m.at_ + 1) = t := by
      obtain ⟨hl, rfl⟩ := List.getElem?_eq_some_iff.1 hin
      exact ⟨_, List.drop_eq_getElem_cons hl, rfl⟩
    have htl : t.length ≤ 10000 := by rw [← ht.2, List.length_drop]; omega
    rw [ht.1] at c15
    rw [ht.2] at H2
    clear h hin ht
    go_enter Tryd.func76, Tryd.ntmps76
    go_wp2
    go_ret
    refine ⟨congrArg (fun z => Ending.returned (.int .u32 z)) (show ((c.toNat : Nat) : Int) % 4294967296 = c.toNat from by have := c.toNat_lt; omega), ?_⟩
    rw [drop_one c t]
    exact H2.out
end
end Go.Proofs.YtjbiikbmbacjkaaDoor.Emu
