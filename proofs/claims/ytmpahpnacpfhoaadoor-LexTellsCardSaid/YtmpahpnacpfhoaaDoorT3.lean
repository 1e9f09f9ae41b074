/- The document's own answer for characters: what the function returns. -/
import Derived.Test.YtmpahpnacpfhoaaDoorT1
namespace Go.Proofs.YtmpahpnacpfhoaaDoor
open Go.RowKit

theorem byteL_drop (s : ByteArray) (a j : Nat) (h : a + j < s.size) : ((s[a + j].toNat : Nat) : Int) = (byteL (s.data.toList.drop a) j : Int) := by
  have := Lib.data_getElem? s (a + j) h
  simp [byteL, List.getD, this]

/-- What the answer says of the character at a place: its number, its end, or none. -/
def chrEnd (l : Bs) (a : Nat) : Int := if (charL l).2 = 0 then -1 else a + (charL l).2

theorem chr_at {l : Bs} {a : Nat} {x y : Int} (n : Int) (hn : n ≠ 0) (hy : y = a + n) (h : charL l = (x, n)) : Ending.returned (.tuple #[.int .u32 x, .int .i64 y]) = .returned (.tuple #[.int .u32 (charL l).1, .int .i64 (chrEnd l a)]) := by
  rw [chrEnd, h, if_neg hn, hy]
theorem chr_none {l : Bs} {a : Nat} (h : charL l = (0, 0)) : Ending.returned (.tuple #[.int .u32 0, .int .i64 (-1)]) = .returned (.tuple #[.int .u32 (charL l).1, .int .i64 (chrEnd l a)]) := by
  rw [chrEnd, h, if_pos rfl]

set_option maxHeartbeats 2000000 in
theorem rCharacter_any (s : ByteArray) (a : Nat) (ha : a < s.size) (w : World) (hs : s.size ≤ 20000) :
    Calls Tryd.prog 39 #[.string s, .int .i64 a] w fun e w' => e = .returned (.tuple #[.int .u32 (charL (s.data.toList.drop a)).1, .int .i64 (chrEnd (s.data.toList.drop a) a)]) ∧ w = w' := by
  have e1 := byteL_drop s a 1
  have e2 := byteL_drop s a 2
  have e3 := byteL_drop s a 3
  have hl : (s.data.toList.drop a).length = s.size - a := by rw [List.length_drop, ← Lib.size_eq]
  obtain ⟨l, hL⟩ : ∃ l, l = s.data.toList.drop a := ⟨_, rfl⟩
  rw [← hL] at e1 e2 e3 hl ⊢
  clear hL
  have E1 := Lib.hid e1
  have E2 := Lib.hid e2
  have E3 := Lib.hid e3
  have HL := Lib.hid hl
  clear e1 e2 e3 hl
  go_enter Tryd.func39, Tryd.ntmps39
  go_wp2
  all_goals go_ret2
  all_goals refine ⟨?_, rfl⟩
  all_goals (simp only [beq_iff_eq, bne_iff_ne, ne_eq, beq_eq_false_iff_ne, bne_eq_false_iff_eq] at *)
  all_goals have h0 := HL.out
  all_goals (try have f1 := E1.out (by omega))
  all_goals (try have f2 := E2.out (by omega))
  all_goals (try have f3 := E3.out (by omega))
  all_goals first
    | (refine chr_none ?_
       unfold charL
       rw [if_neg (by omega)]
       first
         | (rw [if_neg (by omega)])
         | (have hz : escN (byteL l 2 : Int) = (0, false) := by
              unfold escN
              rw [if_neg (by omega), if_neg (by omega), if_neg (by omega), if_neg (by omega), if_neg (by omega)]
            rw [if_pos (by omega), hz]
            rfl))
    | (refine chr_at 3 (by decide) (by first | rfl | omega) ?_
       unfold charL
       rw [if_pos (by omega), f1, Int.emod_eq_of_lt (by omega) (by have := byteL_le l 1; omega)])
    | (refine chr_at 4 (by decide) (by first | rfl | omega) ?_
       unfold charL
       rw [if_neg (by omega), if_pos (by omega)]
       unfold escN
       repeat' split
       all_goals first
         | rfl
         | (exfalso; omega)
         | (rw [f2, Int.emod_eq_of_lt (by omega) (by have := byteL_le l 2; omega)]; done)
         | (simp_all; done))
end Go.Proofs.YtmpahpnacpfhoaaDoor
