/- lex.Lex: the tokens of every text, or its first error. -/
import Derived.Test.YtmpahpnacpfhoaaDoorH
namespace Go.Proofs.YtmpahpnacpfhoaaDoor
open Go.RowKit

theorem skipL_range : ∀ (f : Nat) (l : Bs) (a : Nat), a ≤ l.length → a ≤ (skipL f l a).1 ∧ (skipL f l a).1 ≤ l.length ∧ ((skipL f l a).2 = 0 ∨ (skipL f l a).2 = 13) ∧ ((skipL f l a).2 = 13 → (skipL f l a).1 < l.length) := by
  intro f
  induction f with
  | zero => intro l a h; simp [skipL, h]
  | succ f ih =>
    intro l a h
    unfold skipL
    split
    · rename_i hlt
      split
      · have := ih l (a + 1) (by omega); omega
      · split
        · have h1 := lineLen_le (l.drop a)
          rw [List.length_drop] at h1
          have := ih l (a + lineLen (l.drop a)) (by omega); omega
        · split
          · split
            · simp; omega
            · rename_i h3
              have h1 := index_room [42, 47] (by simp) ((l.drop a).drop 2) (by omega)
              rw [List.length_drop, List.length_drop] at h1
              simp only [List.length_cons, List.length_nil, Nat.zero_add, Nat.reduceAdd] at h1
              have := ih l (a + (2 + (Lib.index ((l.drop a).drop 2) [42, 47]).toNat + 2)) (by omega); omega
          · simp; omega
    · simp; omega
theorem runL_le (l : Bs) : runLen l ≤ l.length := by
  unfold runLen; exact (List.takeWhile_sublist _).length_le
theorem runL_pos {c : UInt8} {l : Bs} (h : wordB c = true) : 0 < runLen (c :: l) := by
  unfold runLen; simp [h]
theorem charL_len {l : Bs} (h : (charL l).2 ≠ 0) : 3 ≤ (charL l).2 ∧ (charL l).2 ≤ l.length := by
  unfold charL at h ⊢
  repeat' split
  all_goals first | (simp only []; omega) | (simp_all; done)
theorem readL_len {l : Bs} (h : 0 < l.length) (he : (readL l).2.2 = 0) : 1 ≤ (readL l).2.1 ∧ (readL l).2.1 ≤ l.length := by
  obtain ⟨c, t, rfl⟩ : ∃ c t, l = c :: t := by cases l with | nil => simp at h | cons c t => exact ⟨c, t, rfl⟩
  have hg : (c :: t).getD 0 0 = c := rfl
  have hr := runL_le (c :: t)
  have hs := signL_range (c :: t) h
  unfold readL at he ⊢
  rw [hg] at he ⊢
  split
  · rename_i hl
    rw [if_pos hl] at he
    have hp := runL_pos (l := t) (show wordB c = true by simp [wordB, hl])
    unfold nameL at he ⊢
    split
    · exact ⟨hp, hr⟩
    · rename_i h1
      rw [if_neg h1] at he
      split
      · rename_i h2; rw [if_pos h2] at he; simp at he
      · exact ⟨hp, hr⟩
  · rename_i hl
    rw [if_neg hl] at he
    split
    · rename_i hd
      rw [if_pos hd] at he
      have hp := runL_pos (l := t) (show wordB c = true by simp [wordB, hd])
      unfold nmbL at he ⊢
      split
      · exact ⟨hp, hr⟩
      · rename_i h1; rw [h1] at he; simp at he
    · rename_i hd
      rw [if_neg hd] at he
      split
      · rename_i hq
        rw [if_pos hq] at he
        unfold chrL at he ⊢
        split
        · rename_i h1; rw [if_pos h1] at he; simp at he
        · rename_i h1; have := charL_len h1; simp only []; omega
      · rename_i hq
        rw [if_neg hq] at he
        unfold sgnL at he ⊢
        split
        · rename_i h1; rw [if_pos h1] at he; simp at he
        · simp only []; omega
theorem Tryd.info29 : (Tryd.prog.info? 29).map (fun i => (i.zero, i.size, i.bytes)) = some (some (.agg #[.int .i64 0, .int .i64 0, .string ⟨#[]⟩, .int .u32 0, .bool false]), 5, 40) := by kernel_rfl

def tokCells (t : PTok) : List Value := [.int .i64 t.1.kind, .int .i64 t.2, .string ⟨t.1.text.toArray⟩, .int .u32 t.1.num, .bool t.1.uns]
def rowOf (ts : List PTok) : List Value := ts.flatMap tokCells
def TokRow (w : World) (B : Nat) (v : Value) (ts : List PTok) : Prop := w.ownsRow B 29 5 v ts.length (rowOf ts)
def LexEnd (w : World) (R : List PTok × Nat × Nat) (e : Ending) (w' : World) : Prop :=
  ∃ v, e = .returned (.tuple #[v, .int .i64 R.2.1, .int .i64 R.2.2]) ∧ TokRow w' w.heap.size v R.1 ∧ Below w.heap.size w w'
theorem TokRow.nil (w : World) (B : Nat) : TokRow w B (.slice none 0 0) [] := ⟨rfl, .inl ⟨rfl, rfl⟩⟩
theorem LexEnd.err {w w' : World} {b e : Nat} {x : Ending} (hx : x = .returned (.tuple #[.slice none 0 0, .int .i64 b, .int .i64 e])) (hb : Below w.heap.size w w') : LexEnd w ([], b, e) x w' :=
  ⟨_, hx, TokRow.nil _ _, hb⟩

theorem lex_skipErr {f : Nat} {l : Bs} {a : Nat} {ts : List PTok} {b : Nat} (h : skipAt l a = (b, 13)) : lexL (f + 1) l a ts = ([], b, 13) := by
  rw [lexL, h]; rfl
theorem lex_end {f : Nat} {l : Bs} {a : Nat} {ts : List PTok} (h : skipAt l a = (l.length, 0)) : lexL (f + 1) l a ts = (ts ++ [(endTok, l.length)], 0, 0) := by
  rw [lexL, h]; simp
theorem lex_err {f : Nat} {l : Bs} {a b : Nat} {ts : List PTok} (h : skipAt l a = (b, 0)) (hb : b ≠ l.length) (he : (readL (l.drop b)).2.2 ≠ 0) : lexL (f + 1) l a ts = ([], b, (readL (l.drop b)).2.2) := by
  rw [lexL, h]; simp [hb, he]
theorem lex_many {f : Nat} {l : Bs} {a b : Nat} {ts : List PTok} (h : skipAt l a = (b, 0)) (hb : b ≠ l.length) (he : (readL (l.drop b)).2.2 = 0) (hm : ts.length = 3999) : lexL (f + 1) l a ts = ([], b, 15) := by
  rw [lexL, h]; simp [hb, he, hm]
theorem lex_on {f : Nat} {l : Bs} {a b : Nat} {ts : List PTok} (h : skipAt l a = (b, 0)) (hb : b ≠ l.length) (he : (readL (l.drop b)).2.2 = 0) (hm : ts.length ≠ 3999) :
    lexL (f + 1) l a ts = lexL f l (b + (readL (l.drop b)).2.1) (ts ++ [((readL (l.drop b)).1, b)]) := by
  rw [lexL, h]; simp [hb, he, hm]

theorem skipAt_range (s : ByteArray) (a : Nat) (ha : a ≤ s.size) : ∃ b er, skipAt s.data.toList a = (b, er) ∧ a ≤ b ∧ b ≤ s.size ∧ (er = 0 ∨ er = 13) := by
  obtain ⟨h1, h2, h3, _⟩ := skipL_range (s.data.toList.length + 1) s.data.toList a (by rw [← Lib.size_eq]; exact ha)
  rw [Lib.size_eq]
  exact ⟨_, _, rfl, h1, h2, h3⟩
theorem Rdy.m {w : World} (h : Rdy w) : ∃ m, w.cell? ⟨0, 0, none⟩ = some (.int .i64 m) := h.2.1

set_option maxHeartbeats 400000 in
theorem lex_long (s : ByteArray) (w : World) (hs : 20000 < s.size) :
    Calls Tryd.prog 11 #[.string s] w fun e w' => e = .returned (.tuple #[.slice none 0 0, .int .i64 0, .int .i64 2]) ∧ w = w' := by
  go_enter Tryd.func11, Tryd.ntmps11
  go_wp2
  go_ret3
  exact ⟨rfl, rfl⟩

theorem own_below {w w' : World} {B e size n : Nat} {v : Value} {xs : List Value} (h : w.ownsRow B e size v n xs) (hb : Below w.heap.size w w') : w'.ownsRow B e size v n xs :=
  ⟨h.1, h.2.imp id fun ⟨g, cap, cur, a, b, c, d⟩ => ⟨g, cap, cur, a, b, (hb.block g (by
    rcases Nat.lt_or_ge g w.heap.size with h' | h'
    · exact h'
    · rw [Array.getElem?_eq_none h'] at c; cases c)).trans c, d⟩⟩
theorem cells_new5 (w : World) (a b c d e : Value) (t : TypeId) : ∀ j u, [a, b, c, d, e][j]? = some u → (w.alloc (.cells #[a, b, c, d, e] t)).cell? ((⟨w.heap.size, 0, none⟩ : Addr).add j) = some u := by
  intro j u hj
  match j, hj with
  | 0, hj => simp at hj; subst hj; simp [Addr.add]
  | 1, hj => simp at hj; subst hj; simp [Addr.add]
  | 2, hj => simp at hj; subst hj; simp [Addr.add]
  | 3, hj => simp at hj; subst hj; simp [Addr.add]
  | 4, hj => simp at hj; subst hj; simp [Addr.add]
  | (j + 5), hj => simp at hj
theorem row_snoc (ts : List PTok) (t : PTok) : rowOf (ts ++ [t]) = rowOf ts ++ tokCells t := by simp [rowOf]
theorem TokRow.snoc {w : World} {B : Nat} {v : Value} {ts : List PTok} {t : PTok} (h : w.ownsRow B 29 5 v (ts.length + 1) (rowOf ts ++ tokCells t)) : TokRow w B v (ts ++ [t]) := by
  unfold TokRow
  rw [row_snoc, List.length_append]
  exact h
theorem tok_one (t : PTok) : ∀ u ∈ tokCells t, u.oneCell' = true := by
  intro u hu
  simp only [tokCells, List.mem_cons, List.not_mem_nil, or_false] at hu
  rcases hu with rfl | rfl | rfl | rfl | rfl <;> rfl
theorem tok_form {w : World} {B : Nat} {v : Value} {n : Nat} {xs : List Value} (h : w.ownsRow B 29 5 v n xs) : ∃ ao cv, v = .slice ao n cv := by
  rcases h.2 with ⟨h1, h2⟩ | ⟨g, cap, cur, h1, _⟩
  · exact ⟨none, 0, by rw [h1, h2]⟩
  · exact ⟨_, _, h1⟩

set_option maxHeartbeats 4000000 in
set_option maxRecDepth 100000 in
theorem lex_short (s : ByteArray) (w : World) (hs : s.size ≤ 20000) (hr : Rdy w) :
    Calls Tryd.prog 11 #[.string s] w fun e w' => LexEnd w (lexL (s.data.toList.length + 1) s.data.toList 0 []) e w' := by
  obtain ⟨i0, hi, hz0, hz1, hz2⟩ := info_parts Tryd.info29
  obtain ⟨R, hR⟩ : ∃ R, R = lexL (s.data.toList.length + 1) s.data.toList 0 [] := ⟨_, rfl⟩
  rw [← hR]
  have HR0 := Lib.hid hr
  have HL0 := Lib.hid hR
  clear hr hR
  go_enter Tryd.func11, Tryd.ntmps11
  go_wp2
  go_loopw [5, 6] (fun v i wr => ∃ (a f : Nat) (ts : List PTok) (ao : Option Addr) (cv : Nat), a ≤ s.size ∧ i = .int .i64 a ∧ s.size - a < f ∧ ts.length ≤ 3999 ∧ v = .slice ao ts.length cv ∧
      Hid (TokRow wr w.heap.size (.slice ao ts.length cv) ts) ∧ Below w.heap.size w wr ∧ Hid (R = lexL f s.data.toList a ts))
    (fun _ i _ => s.size - (intOf i).toNat)
  case atStart => exact ⟨0, s.data.toList.length + 1, [], none, 0, by omega, rfl, by rw [← Lib.size_eq]; omega, by simp, rfl, Lib.hid (TokRow.nil _ _), Below.refl _ _, HL0⟩
  case round =>
    obtain ⟨a, f, ts, ao, cv, ha, rfl, hf, hts, rfl, hT, hnx, hH⟩ := hrel
    obtain ⟨g, rfl⟩ : ∃ g, f = g + 1 := ⟨f - 1, by omega⟩
    have hr := Lib.hid (HR0.out.below hnx)
    obtain ⟨m, hm⟩ := hr.out.m
    have hsk := skip_any s a ha hs m
    obtain ⟨b, er, hsp, hsa, hsl, hse⟩ := skipAt_range s a ha
    rw [hsp] at hsk
    simp only at hsk
    have HK := Lib.hid (hsk wr hm)
    clear hsk hm
    rcases hse with rfl | rfl
    · by_cases hend : b = s.size
      · have HS := Lib.hid (hH.out.trans (lex_end (ts := ts) (f := g) (by rw [hsp, hend, Lib.size_eq])))
        rw [← Lib.size_eq] at HS
        have hT' := hT.out
        unfold TokRow at hT'
        have HT := Lib.hid hT'
        have hsz := hnx.size
        clear hsp hT'
        subst hend
        go_wp2_with (first | (go_at_call 18; refine HK.out.mono ?_; rintro e w' ⟨rfl, rfl⟩) | (at_builtin; refine wpList_append_own _ rfl (.tmp 28) (.tmp 31) 22 rfl w.heap.size 29 i0 (.agg #[.int .i64 0, .int .i64 0, .string ⟨#[]⟩, .int .u32 0, .bool false]) 5 40 Tryd.underlying22 hi hz0 hz1 hz2 rfl (by decide) _ _ _ rfl (HT.out.alloc _) ⟨wr.heap.size, 0, none⟩ 1 1 (tokCells (endTok, s.size)) rfl rfl (cells_new5 _ _ _ _ _ _ _) (tok_one _) (by unfold maxLen; omega) (by omega) (by rw [World.size_alloc]; omega) ?_; intro v3 w3 hown3 hgrow3 hnil3))
        go_ret3
        rw [HS.out]
        exact ⟨v3, rfl, TokRow.snoc (t := (endTok, s.size)) hown3, (hnx.alloc hsz _).grown hgrow3 (by rw [World.size_alloc]; omega) (fun k hk => (HT.out.lt k hk).1)⟩
      · have hx0 : 0 < (s.extract b s.size).size := by rw [ByteArray.size_extract]; omega
        have hxs : (s.extract b s.size).size ≤ 20000 := by rw [ByteArray.size_extract]; omega
        have hrd := fun w hr => read_any (s.extract b s.size) w hx0 hxs hr
        rw [Lib.extract_to_end] at hrd
        obtain ⟨r, hrr⟩ : ∃ r, r = readL (s.data.toList.drop b) := ⟨_, rfl⟩
        rw [← hrr] at hrd
        have HD := Lib.hid hrd
        clear hrd
        by_cases he : r.2.2 = 0
        · by_cases hm : ts.length = 3999
          · have HS := Lib.hid (hH.out.trans (lex_many hsp (by rw [← Lib.size_eq]; exact hend) (by rw [← hrr]; exact he) hm))
            have hb1 : ((b : Int) == s.size) = false := by rw [beq_eq_false_iff_ne]; omega
            have he1 : ((r.2.2 : Int) == 0) = true := by rw [beq_iff_eq]; omega
            have hm1 : ((ts.length : Int) == 3999) = true := by rw [beq_iff_eq]; omega
            clear hrr hsp hend he hx0 hxs hm
            go_wp2_with (first | (go_at_call 18; refine HK.out.mono ?_; rintro e w' ⟨rfl, rfl⟩) | (go_at_call 19; refine (HD.out _ hr.out).mono ?_; rintro e w' ⟨rfl, hb⟩; obtain ⟨hq, hf⟩ := bcell hb; have hz := hb.size; unfold readTup aggT))
            go_ret3
            rw [HS.out]
            exact LexEnd.err rfl ((hnx.trans (hb.mono hnx.size)).alloc (Nat.le_trans hnx.size hz) _)
          · have hrl := readL_len (l := s.data.toList.drop b) (by rw [List.length_drop, ← Lib.size_eq]; omega) (by rw [← hrr]; exact he)
            rw [← hrr, List.length_drop, ← Lib.size_eq] at hrl
            have HS := Lib.hid (hH.out.trans (lex_on hsp (by rw [← Lib.size_eq]; exact hend) (by rw [← hrr]; exact he) hm))
            rw [← hrr] at HS
            obtain ⟨hn1, hn2⟩ := hrl
            obtain ⟨t, n, er⟩ := r
            simp only at he hn1 hn2 HS HD
            subst he
            have hb1 : ((b : Int) == s.size) = false := by rw [beq_eq_false_iff_ne]; omega
            have hm1 : ((ts.length : Int) == 3999) = false := by rw [beq_eq_false_iff_ne]; omega
            have hbl : b < s.size := by omega
            have hm2 : ts.length < 3999 := by omega
            have hT' := hT.out
            unfold TokRow at hT'
            have HT := Lib.hid hT'
            have hsz := hnx.size
            clear hrr hsp hend hx0 hxs hm hT'
            unfold readTup aggT at HD
            simp only [Int.natCast_zero] at HD
            go_wp2_with (first | (go_at_call 18; refine HK.out.mono ?_; rintro e w' ⟨rfl, rfl⟩) | (go_at_call 19; refine (HD.out _ hr.out).mono ?_; rintro e w' ⟨rfl, hb⟩; obtain ⟨hq, hf⟩ := bcell hb; have hz := hb.size) | (at_builtin; refine wpList_append_own _ rfl (.tmp 54) (.tmp 56) 22 rfl w.heap.size 29 i0 (.agg #[.int .i64 0, .int .i64 0, .string ⟨#[]⟩, .int .u32 0, .bool false]) 5 40 Tryd.underlying22 hi hz0 hz1 hz2 rfl (by decide) _ _ _ rfl (((own_below HT.out hb).alloc _).alloc _) ⟨w'.heap.size + 1, 0, none⟩ 1 1 (tokCells (t, b)) rfl rfl (by have h5 := cells_new5 (w'.alloc (.cells #[.int .i64 t.kind, .int .i64 b, .string ⟨t.text.toArray⟩, .int .u32 t.num, .bool t.uns] 29)) (.int .i64 t.kind) (.int .i64 b) (.string ⟨t.text.toArray⟩) (.int .u32 t.num) (.bool t.uns) 29; rw [World.size_alloc] at h5; exact h5) (tok_one _) (by unfold maxLen; omega) (by omega) (by rw [World.size_alloc, World.size_alloc]; omega) ?_; intro v3 w3 hown3 hgrow3 hnil3))
            obtain ⟨ao3, cv3, hv3⟩ := tok_form hown3
            go_roundw
            case rel =>
              have hbw : Below w.heap.size w w' := hnx.trans (hb.mono hsz)
              have hB3 : Below w.heap.size w w3 := ((hbw.alloc (by omega) _).alloc (by rw [World.size_alloc]; omega) _).grown hgrow3 (by rw [World.size_alloc, World.size_alloc]; omega) (fun k hk => (HT.out.lt k hk).1)
              have hT3 : TokRow w3 w.heap.size v3 (ts ++ [(t, b)]) := TokRow.snoc (t := (t, b)) hown3
              rw [hv3] at hT3
              have hlen : (ts ++ [(t, b)]).length = ts.length + 1 := by simp
              exact ⟨b + n, g, ts ++ [(t, b)], ao3, cv3, by omega, by go_num, by omega, by omega, by rw [hlen]; exact hv3, Lib.hid (by rw [hlen]; exact hT3), hB3, HS⟩
            case measure => simp [intOf]; omega
        · have HS := Lib.hid (hH.out.trans (lex_err hsp (by rw [← Lib.size_eq]; exact hend) (by rw [← hrr]; exact he)))
          rw [← hrr] at HS
          have hb1 : ((b : Int) == s.size) = false := by rw [beq_eq_false_iff_ne]; omega
          have he1 : ((r.2.2 : Int) == 0) = false := by rw [beq_eq_false_iff_ne]; omega
          have he2 : ((r.2.2 : Int) != 0) = true := by rw [bne_iff_ne]; omega
          clear hrr hsp hend he hx0 hxs
          go_wp2_with (first | (go_at_call 18; refine HK.out.mono ?_; rintro e w' ⟨rfl, rfl⟩) | (go_at_call 19; refine (HD.out _ hr.out).mono ?_; rintro e w' ⟨rfl, hb⟩; obtain ⟨hq, hf⟩ := bcell hb; have hz := hb.size; unfold readTup aggT))
          go_ret3
          rw [HS.out]
          exact LexEnd.err rfl ((hnx.trans (hb.mono hnx.size)).alloc (Nat.le_trans hnx.size hz) _)
    · have HS := Lib.hid (hH.out.trans (lex_skipErr hsp))
      clear hsp
      go_wp2_with (first | (go_at_call 18; refine HK.out.mono ?_; rintro e w' ⟨rfl, rfl⟩))
      go_ret3
      rw [HS.out]
      exact LexEnd.err rfl hnx
end Go.Proofs.YtmpahpnacpfhoaaDoor
