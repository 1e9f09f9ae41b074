/- The functions of package lex that make one token: what each returns, for every text of at most 20000 bytes with a byte in it. -/
import Derived.Test.YtmpahpnacpfhoaaDoorB
import Derived.Test.YtmpahpnacpfhoaaDoorC8
import Derived.Test.YtmpahpnacpfhoaaDoorC16
namespace Go.Proofs.YtmpahpnacpfhoaaDoor
open Go.RowKit

/-- The library's three variables hold values of their types. -/
def Rdy (w : World) : Prop := 3 ≤ w.heap.size ∧ (∃ m, w.cell? ⟨0, 0, none⟩ = some (.int .i64 m)) ∧
  (∃ ev, w.cell? ⟨1, 0, none⟩ = some ev ∧ (ev = .nilIface ∨ ∃ te pe, ev = .iface te pe)) ∧ (∃ ev, w.cell? ⟨2, 0, none⟩ = some ev ∧ (ev = .nilIface ∨ ∃ te pe, ev = .iface te pe))
theorem Rdy.below {w w' : World} (h : Rdy w) (hb : Below w.heap.size w w') : Rdy w' := by
  obtain ⟨h3, h0, h1, h2⟩ := h
  refine ⟨Nat.le_trans h3 hb.size, ?_, ?_, ?_⟩
  · rw [hb.cell (p := ⟨0, 0, none⟩) (by show 0 < _; omega)]; exact h0
  · rw [hb.cell (p := ⟨1, 0, none⟩) (by show 1 < _; omega)]; exact h1
  · rw [hb.cell (p := ⟨2, 0, none⟩) (by show 2 < _; omega)]; exact h2

def PuEnd2 (base : Nat) (l : Bs) (e : Ending) : Prop :=
  (∃ n : Nat, parseAll base l = some n ∧ e = .returned (.tuple #[.int .u64 n, .nilIface])) ∨
  (parseAll base l = none ∧ ∃ (x : Int) (p : Value), e = .returned (.tuple #[.int .u64 x, .iface 74 p]))

/-- What is known of the inner call at one base. -/
def Inner (b : Nat) (t : ByteArray) : Prop := ∀ w, Calls Tryd.prog 60 #[.string t, .int .i64 b, .int .i64 32] w fun e w' => PuEnd b t.data.toList e ∧ Below w.heap.size w w'

theorem parseAll_nil (b : Nat) (t : ByteArray) (h : t.size = 0) : parseAll b t.data.toList = none := by
  unfold parseAll
  rw [if_pos]
  rw [← List.length_eq_zero_iff, ← Lib.size_eq]; exact h
theorem inner_of (b : Nat) (t : ByteArray) (h : t.size ≠ 0 → Inner b t) : Inner b t := by
  intro w
  by_cases h0 : t.size = 0
  · exact (pu_empty b t h0 w).mono fun _ _ ⟨a, c⟩ => ⟨PuEnd.no (parseAll_nil b t h0) (Or.inr rfl) a, by subst c; exact Below.refl _ _⟩
  · exact h h0 w
theorem inner8 (t : ByteArray) (ht : t.size ≤ 20000) : Inner 8 t := inner_of 8 t fun h w => pu_8 t h ht w
theorem inner10 (t : ByteArray) (ht : t.size ≤ 20000) : Inner 10 t := inner_of 10 t fun h w => pu_10 t h ht w
theorem inner16 (t : ByteArray) (ht : t.size ≤ 20000) : Inner 16 t := inner_of 16 t fun h w => pu_16 t h ht w

set_option maxHeartbeats 1000000 in
theorem parseUint_of (b : Nat) (t : ByteArray) (ht : t.size ≤ 20000) (hin : Inner b t) (w : World) (hr : Rdy w) :
    Calls Tryd.prog 56 #[.string t, .int .i64 b, .int .i64 32] w fun e w' => PuEnd2 b t.data.toList e ∧ Below w.heap.size w w' := by
  have HR := Lib.hid hr
  clear hr
  go_enter Tryd.func56, Tryd.ntmps56
  go_wp2_with fail
  refine (hin _).mono ?_
  rintro e w' ⟨hpu, hb⟩
  have hr' := HR.out.below hb
  rcases hpu with ⟨n, hn, rfl⟩ | ⟨hn, x, k, hk, rfl⟩
  · have HN := Lib.hid hn
    clear hn hr'
    go_wp2
    go_ret2
    exact ⟨.inl ⟨n, HN.out, rfl⟩, hb⟩
  · obtain ⟨_, _, ⟨e1, hc1, he1⟩, ⟨e2, hc2, he2⟩⟩ := hr'
    have HN := Lib.hid hn
    have HC1 := Lib.hid hc1
    have HC2 := Lib.hid hc2
    clear hn hc1 hc2
    rcases hk with rfl | rfl
    · go_wp2_with (go_at_call 61; refine (Tryd.strconv_toError_range _ t _ _ e2 _ (by omega) HC2.out he2).mono ?_; rintro e w2 ⟨N, rfl, hN, hN2, hb2⟩)
      go_ret2
      exact ⟨.inr ⟨HN.out, _, _, rfl⟩, hb.trans (hb2.mono hb.size)⟩
    · go_wp2_with (go_at_call 61; refine (Tryd.strconv_toError_syntax _ t _ _ e1 _ (by omega) HC1.out he1).mono ?_; rintro e w2 ⟨N, rfl, hN, hN2, hb2⟩)
      go_ret2
      exact ⟨.inr ⟨HN.out, _, _, rfl⟩, hb.trans (hb2.mono hb.size)⟩
end Go.Proofs.YtmpahpnacpfhoaaDoor
