/- The tokens of a source, as the parser gets them: plain facts. -/
import Derived.Test.YteggenldmkbhiaaDoorGA
import Derived.Test.YteggenldmkbhiaaDoorGB
namespace Go.Proofs.YteggenldmkbhiaaDoor
open Go.RowKit

/-- A token with its place, as the parser's. -/
def ptOf (t : PTok) : Parse.PT := ⟨t.1.kind, t.2, t.1.text, t.1.num, t.1.uns⟩
theorem readL_small {r : Bs} {t : Tok} {n e : Nat} (h : readL r = (t, n, e)) : t.text.length ≤ r.length ∧ t.num ≤ 4294967295 := by
  unfold readL at h
  split at h
  · unfold nameL at h
    repeat' split at h
    all_goals (injection h with h1 _; subst h1; simp [zeroTok]; try omega)
  · split at h
    · unfold nmbL at h
      split at h
      · rename_i q u hq
        injection h with h1 _; subst h1
        refine ⟨by simp, ?_⟩
        unfold numL at hq
        obtain ⟨m, hm, hm2⟩ := Option.map_eq_some_iff.1 hq
        have := parseAll_le hm
        show q ≤ _
        rw [← (Prod.mk.inj hm2).1]; omega
      · injection h with h1 _; subst h1; simp [zeroTok]
    · split at h
      · unfold chrL at h
        split at h
        · injection h with h1 _; subst h1; simp [zeroTok]
        · injection h with h1 _; subst h1
          refine ⟨by simp, ?_⟩
          have := charL_range r
          show (charL r).1.toNat ≤ _
          omega
      · unfold sgnL at h
        split at h
        · injection h with h1 _; subst h1; simp [zeroTok]
        · injection h with h1 _; subst h1
          simp; omega
theorem lp_small {l : Bs} : ∀ {a : Nat} {us : List PTok}, Lp l a us → ∀ t ∈ us, t.1.text.length ≤ l.length ∧ t.1.num ≤ 4294967295 ∧ t.1.kind ≠ 0 := by
  intro a us h
  induction h with
  | fin => intro t ht; simp at ht
  | tok a b n t ts hab hb hn hg hs hr _ ih =>
    intro x hx
    rcases List.mem_cons.1 hx with rfl | h
    · have := readL_small hr
      refine ⟨by have h2 := this.1; rw [List.length_drop] at h2; show t.text.length ≤ _; omega, this.2, ?_⟩
      have := readL_kind (l := l.drop b) (by rw [hr])
      rw [hr] at this; exact this
    · exact ih x h
/-- What a source's tokens are, if it has some. -/
structure Src (l : Bs) (ts : List PTok) (us : List Tok) : Prop where
  all : lexAll l = (ts, 0, 0)
  lx : Lx l us
  toks : ts.map (·.1) = us ++ [endTok]
  size : l.length ≤ 20000
  many : us.length ≤ 3999
  small : ∀ t ∈ ts, t.1.text.length ≤ 20000 ∧ t.1.num ≤ 4294967295
  ends : ∀ t ∈ us, t.kind ≠ 0
theorem src_of {l : Bs} (h : (lexAll l).2.2 = 0) : ∃ us, Src l (lexAll l).1 us := by
  obtain ⟨us, h1, h2, h3, h4, h5⟩ := lexAll_lp h
  refine ⟨us.map (·.1), ?_, ?_, by rw [h1]; simp, h4, by simpa using h5, ?_, ?_⟩
  · exact Prod.ext rfl (Prod.ext h2 h)
  · have := lp_lx h3; rwa [List.drop_zero] at this
  · rw [h1]
    intro t ht
    rcases List.mem_append.1 ht with h | h
    · have := lp_small h3 t h; exact ⟨by omega, this.2.1⟩
    · simp only [List.mem_singleton] at h; subst h; simp [endTok]
  · intro t ht
    obtain ⟨x, hx, rfl⟩ := List.mem_map.1 ht
    exact (lp_small h3 x hx).2.2
theorem Src.len {l : Bs} {ts : List PTok} {us : List Tok} (h : Src l ts us) : ts.length = us.length + 1 := by
  have := congrArg List.length h.toks
  simpa using this
theorem Src.at_ {l : Bs} {ts : List PTok} {us : List Tok} (h : Src l ts us) (k : Nat) : (ts[k]?).map (·.1) = (us ++ [endTok])[k]? := by
  rw [← h.toks, List.getElem?_map]
theorem tokAt_pt (ts : List PTok) (k : Nat) : Parse.tokAt (ts.map ptOf) k = ((ts[k]?).map ptOf).getD Parse.noTok := by
  simp [Parse.tokAt, List.getD_eq_getElem?_getD]
theorem tokAt_lt {ts : List PTok} {k : Nat} {t : PTok} (h : ts[k]? = some t) : Parse.tokAt (ts.map ptOf) k = ptOf t := by rw [tokAt_pt, h]; rfl
/-- The k-th token's kind, text, number. -/
def Shows (l : List Parse.PT) (k : Nat) (t : Tok) : Prop := (Parse.tokAt l k).kind = t.kind ∧ (Parse.tokAt l k).text = t.text ∧ (Parse.tokAt l k).num = t.num ∧ (Parse.tokAt l k).uns = t.uns
theorem Src.shows {l : Bs} {ts : List PTok} {us : List Tok} (h : Src l ts us) {k : Nat} {t : Tok} (ht : (us ++ [endTok])[k]? = some t) : Shows (ts.map ptOf) k t := by
  have h1 := h.at_ k
  rw [ht] at h1
  obtain ⟨x, hx, rfl⟩ := Option.map_eq_some_iff.1 h1
  unfold Shows
  rw [tokAt_lt hx]
  exact ⟨rfl, rfl, rfl, rfl⟩
theorem Src.endsOnce {l : Bs} {ts : List PTok} {us : List Tok} (h : Src l ts us) : Parse.endsOnce (ts.map ptOf) = true := by
  have hl := h.len
  refine Parse.endsOnce_mk (by simp; omega) (by simp; have := h.many; omega) (fun i hi => ?_)
  simp only [List.length_map] at hi ⊢
  rcases Nat.lt_or_ge i us.length with h1 | h1
  · have h2 := h.shows (k := i) (t := us[i]) (by rw [List.getElem?_append_left h1]; exact List.getElem?_eq_getElem h1)
    have h3 := h.ends us[i] (List.getElem_mem h1)
    rw [h2.1]
    constructor
    · intro h4; omega
    · intro h4; omega
  · have h2 := h.shows (k := i) (t := endTok) (by rw [List.getElem?_append_right h1, show i - us.length = 0 by omega]; rfl)
    rw [h2.1]
    simp [endTok]; omega
/-- Tokens are one. -/
theorem lx_same {l : Bs} {us : List Tok} (h : Lx l us) : ∀ {vs : List Tok}, Lx l vs → us = vs := by
  induction h with
  | fin l hg =>
    intro vs h2
    cases h2 with
    | fin _ _ => rfl
    | tok g x y t ts hg2 hs hx hr hl =>
      have h3 := gapE_end hg
      rw [gap_skip hg2, hs.skip] at h3
      have := hs.ne
      injection h3 with h4 _
      exact absurd h4 this
  | tok g x y t ts hg hs hx hr hl ih =>
    intro vs h2
    generalize hL : g ++ (x ++ y) = L at h2
    cases h2 with
    | fin _ hg2 =>
      have h3 := gapE_end hg2
      rw [← hL, gap_skip hg, hs.skip] at h3
      injection h3 with h4 _
      exact absurd h4 hs.ne
    | tok g' x' y' t' ts' hg' hs' hx' hr' hl' =>
      have h3 := congrArg skipF hL
      rw [gap_skip hg, hs.skip, gap_skip hg', hs'.skip] at h3
      injection h3 with h4 _
      rw [h4] at hr
      rw [hr] at hr'
      injection hr' with h5 h6
      injection h6 with h7 _
      obtain ⟨h8, h9⟩ := List.append_inj h4 h7
      subst h5
      subst h9
      rw [ih hl']
theorem gapE_pre {g r : Bs} (hg : Gap g) (h : GapE r) : GapE (g ++ r) := by
  rcases h with h | ⟨g1, m, rfl, h1, hm⟩
  · exact .inl (gap_append hg h)
  · exact .inr ⟨g ++ g1, m, by simp, gap_append hg h1, hm⟩
theorem lx_pre {g r : Bs} {us : List Tok} (hg : Gap g) (h : Lx r us) : Lx (g ++ r) us := by
  cases h with
  | fin _ h => exact .fin _ (gapE_pre hg h)
  | tok g1 x y t ts hg1 hs hx hr hl =>
    have := Lx.tok (g ++ g1) x y t ts (gap_append hg hg1) hs hx hr hl
    simpa using this
/-- One more word or sign ahead: whatever is behind, it is read so. -/
theorem lx_one {x r : Bs} {t : Tok} {us : List Tok} (y0 : Bs) (hx : 0 < x.length) (hs : Stops (x ++ y0)) (hr : readL (x ++ y0) = (t, x.length, 0)) (hb : Behind y0 r) (h : Lx r us) : Lx (x ++ r) (t :: us) := by
  have := Lx.tok [] x r t us .nil (stops_behind hs hx hb) hx (readL_stop hx hr hb) h
  simpa using this
theorem stops_mk {c : UInt8} {t : Bs} (h1 : blankB c = false) (h2 : (c == 47) = false) : Stops (c :: t) := by
  refine ⟨c, t, rfl, h1, ?_, ?_⟩ <;> simp [Lib.hasPrefix, List.isPrefixOf] <;> (intro h; subst h; simp at h2)
/-- A bracket of any kind ahead. -/
theorem lx_bracket {c : UInt8} {r : Bs} {us : List Tok} (hc : c = 40 ∨ c = 41 ∨ c = 123 ∨ c = 125 ∨ c = 59) (h : Lx r us) : Lx (c :: r) (⟨4, [c], 0, false⟩ :: us) := by
  have hs : Stops ([c] ++ r) := by
    rcases hc with rfl | rfl | rfl | rfl | rfl <;> exact stops_mk (by decide) (by decide)
  have hr : readL ([c] ++ r) = (⟨4, [c], 0, false⟩, [c].length, 0) := by
    have hsg : signL (c :: r) = 1 := by
      unfold signL
      have : byteL (c :: r) 0 = c.toNat := rfl
      rw [this]
      rcases hc with rfl | rfl | rfl | rfl | rfl <;> (unfold signN; simp)
    have h1 : letterB c = false ∧ digitB c = false ∧ byteL (c :: r) 0 ≠ 39 := by
      rcases hc with rfl | rfl | rfl | rfl | rfl <;> exact ⟨by decide, by decide, by simp [byteL]⟩
    show readL (c :: r) = _
    unfold readL
    have h0 : (c :: r).getD 0 0 = c := rfl
    rw [h0, h1.1, h1.2.1, if_neg (by simp), if_neg (by simp), if_neg h1.2.2]
    unfold sgnL
    rw [hsg]
    simp
  exact Lx.tok [] [c] r _ us .nil hs (by simp) hr h
def tI : Tok := ⟨3, [105, 110, 116], 0, false⟩
def tR : Tok := ⟨3, [114, 101, 116, 117, 114, 110], 0, false⟩
def tS (c : UInt8) : Tok := ⟨4, [c], 0, false⟩
theorem lx_int {r : Bs} {us : List Tok} (h : Lx r us) : Lx (105 :: 110 :: 116 :: 32 :: r) (tI :: us) :=
  lx_one (x := [105, 110, 116]) (r := 32 :: r) [32] (by simp) (stops_mk (by decide) (by decide)) (by decide +kernel) (.inr ⟨32, r, rfl, by decide⟩) (lx_pre (g := [32]) (.blank 32 [] (by decide) .nil) h)
theorem lx_return {r : Bs} {us : List Tok} (h : Lx r us) : Lx (114 :: 101 :: 116 :: 117 :: 114 :: 110 :: 32 :: r) (tR :: us) :=
  lx_one (x := [114, 101, 116, 117, 114, 110]) (r := 32 :: r) [32] (by simp) (stops_mk (by decide) (by decide)) (by decide +kernel) (.inr ⟨32, r, rfl, by decide⟩) (lx_pre (g := [32]) (.blank 32 [] (by decide) .nil) h)
theorem lx_main {r : Bs} {us : List Tok} (h : Lx (40 :: r) us) : Lx (109 :: 97 :: 105 :: 110 :: 40 :: r) (⟨1, [109, 97, 105, 110], 0, false⟩ :: us) :=
  lx_one (x := [109, 97, 105, 110]) (r := 40 :: r) [40] (by simp) (stops_mk (by decide) (by decide)) (by decide +kernel) (.inl rfl) h
theorem lx_f {r : Bs} {us : List Tok} (h : Lx (40 :: r) us) : Lx (102 :: 40 :: r) (⟨1, [102], 0, false⟩ :: us) :=
  lx_one (x := [102]) (r := 40 :: r) [40] (by simp) (stops_mk (by decide) (by decide)) (by decide +kernel) (.inl rfl) h
end Go.Proofs.YteggenldmkbhiaaDoor
namespace Go.Proofs.YteggenldmkbhiaaDoor
open Go.RowKit
open Parse (At sameTok tokAt depth AlikeL)

theorem Shows.at_ {l : List Parse.PT} {k : Nat} {t : Tok} (h : Shows l k t) : At l k t.kind t.text := ⟨h.1, h.2.1⟩
theorem shows_same {A B : List Parse.PT} {i j : Nat} {t : Tok} (ha : Shows A i t) (hb : Shows B j t) : sameTok (tokAt B j) (tokAt A i) :=
  ⟨hb.1.trans ha.1.symm, hb.2.1.trans ha.2.1.symm, hb.2.2.1.trans ha.2.2.1.symm, hb.2.2.2.trans ha.2.2.2.symm⟩
def headM : Bs := [105, 110, 116, 32, 109, 97, 105, 110, 40, 41, 123, 114, 101, 116, 117, 114, 110, 32]
def headB : Bs := [105, 110, 116, 32, 109, 97, 105, 110, 40, 41, 123, 114, 101, 116, 117, 114, 110, 32, 40]
def headF : Bs := [105, 110, 116, 32, 102, 40, 41, 123]
def headG : Bs := [105, 110, 116, 32, 102, 40, 41, 123, 123]
def preM : List Tok := [tI, ⟨1, [109, 97, 105, 110], 0, false⟩, tS 40, tS 41, tS 123, tR]
def preF : List Tok := [tI, ⟨1, [102], 0, false⟩, tS 40, tS 41, tS 123]
theorem lx_headM {r : Bs} {us : List Tok} (h : Lx r us) : Lx (headM ++ r) (preM ++ us) :=
  lx_int (lx_main (lx_bracket (.inl rfl) (lx_bracket (.inr (.inl rfl)) (lx_bracket (.inr (.inr (.inl rfl))) (lx_return h)))))
theorem lx_headB {r : Bs} {us : List Tok} (h : Lx r us) : Lx (headB ++ r) (preM ++ tS 40 :: us) :=
  lx_int (lx_main (lx_bracket (.inl rfl) (lx_bracket (.inr (.inl rfl)) (lx_bracket (.inr (.inr (.inl rfl))) (lx_return (lx_bracket (.inl rfl) h))))))
theorem lx_headF {r : Bs} {us : List Tok} (h : Lx r us) : Lx (headF ++ r) (preF ++ us) :=
  lx_int (lx_f (lx_bracket (.inl rfl) (lx_bracket (.inr (.inl rfl)) (lx_bracket (.inr (.inr (.inl rfl))) h))))
theorem lx_headG {r : Bs} {us : List Tok} (h : Lx r us) : Lx (headG ++ r) (preF ++ tS 123 :: us) :=
  lx_int (lx_f (lx_bracket (.inl rfl) (lx_bracket (.inr (.inl rfl)) (lx_bracket (.inr (.inr (.inl rfl))) (lx_bracket (.inr (.inr (.inl rfl))) h)))))
theorem lx_nil : Lx [] [] := .fin [] (.inl .nil)
theorem lx_end1 : Lx [59, 125] [tS 59, tS 125] := lx_bracket (by simp) (lx_bracket (by simp) lx_nil)
theorem lx_end2 : Lx [41, 59, 125] [tS 41, tS 59, tS 125] := lx_bracket (by simp) lx_end1
theorem lx_end3 : Lx [125] [tS 125] := lx_bracket (by simp) lx_nil
theorem lx_end4 : Lx [125, 125] [tS 125, tS 125] := lx_bracket (by simp) lx_end3

/-- Is a token the sign of these bytes? -/
def isS (t : Tok) (c : UInt8) : Prop := t.kind = 4 ∧ t.text = [c]
theorem src_brackets {S : Bs} {ts tA tB : List PTok} {us uA uB : List Tok} (h : Src S ts us) (hA : Src (headM ++ (S ++ [10, 59, 125])) tA uA) (hB : Src (headB ++ (S ++ [10, 41, 59, 125])) tB uB)
    (hp : ∀ t ∈ us, ¬ isS t 59) (hn : us ≠ []) (hok : (Parse.parseAll (tA.map ptOf)).2.2 = 0) :
    ∃ nsA nsB, Parse.parseAll (tA.map ptOf) = (nsA, 0, 0) ∧ Parse.parseAll (tB.map ptOf) = (nsB, 0, 0) ∧ AlikeL nsA nsB := by
  have eA : uA = preM ++ (us ++ [tS 59, tS 125]) := lx_same hA.lx (lx_headM (lx_glue h.lx lx_end1))
  have eB : uB = preM ++ tS 40 :: (us ++ [tS 41, tS 59, tS 125]) := lx_same hB.lx (lx_headB (lx_glue h.lx lx_end2))
  have hlen : 0 < us.length := List.length_pos_iff.2 hn
  have sA : ∀ {k : Nat} {t : Tok}, (preM ++ (us ++ [tS 59, tS 125, endTok]))[k]? = some t → Shows (tA.map ptOf) k t := fun {k t} hk => hA.shows (by rw [eA]; simpa using hk)
  have sB : ∀ {k : Nat} {t : Tok}, (preM ++ tS 40 :: (us ++ [tS 41, tS 59, tS 125, endTok]))[k]? = some t → Shows (tB.map ptOf) k t := fun {k t} hk => hB.shows (by rw [eB]; simpa using hk)
  have mid : ∀ j, 6 ≤ j → j < us.length + 6 → ∃ t, us[j - 6]? = some t ∧ Shows (tA.map ptOf) j t ∧ Shows (tB.map ptOf) (j + 1) t := by
    intro j h6 hj
    obtain ⟨i, rfl⟩ : ∃ i, j = 6 + i := ⟨j - 6, by omega⟩
    have hi : us[i]? = some us[i] := List.getElem?_eq_getElem (by omega)
    refine ⟨us[i], by rw [Nat.add_sub_cancel_left]; exact hi, sA ?_, sB ?_⟩
    · rw [List.getElem?_append_right (by simp [preM]), List.getElem?_append_left (by simp [preM]; omega)]
      simp [preM]
    · rw [List.getElem?_append_right (by simp [preM]; omega), show 6 + i + 1 - preM.length = i + 1 by simp [preM]; omega, List.getElem?_cons_succ, List.getElem?_append_left (by omega)]
      exact hi
  have tlA : ∀ q : Nat, Shows (tA.map ptOf) (us.length + 6 + q) (([tS 59, tS 125, endTok] : List Tok).getD q endTok) ∨ 3 ≤ q := by
    intro q
    rcases Nat.lt_or_ge q 3 with hq | hq
    · left
      refine sA ?_
      rw [List.getElem?_append_right (by simp [preM]; omega), List.getElem?_append_right (by simp [preM]; omega), show us.length + 6 + q - preM.length - us.length = q by simp [preM]; omega]
      rw [List.getElem?_eq_getElem (by simpa using hq), List.getD_eq_getElem?_getD, List.getElem?_eq_getElem (by simpa using hq)]
      rfl
    · exact .inr hq
  have tlB : ∀ q : Nat, Shows (tB.map ptOf) (us.length + 7 + q) (([tS 41, tS 59, tS 125, endTok] : List Tok).getD q endTok) ∨ 4 ≤ q := by
    intro q
    rcases Nat.lt_or_ge q 4 with hq | hq
    · left
      refine sB ?_
      rw [List.getElem?_append_right (by simp [preM]; omega), show us.length + 7 + q - preM.length = us.length + q + 1 by simp [preM]; omega, List.getElem?_cons_succ, List.getElem?_append_right (by omega), show us.length + q - us.length = q by omega]
      rw [List.getElem?_eq_getElem (by simpa using hq), List.getD_eq_getElem?_getD, List.getElem?_eq_getElem (by simpa using hq)]
      rfl
    · exact .inr hq
  have gA := fun q hq => (tlA q).resolve_right hq
  have gB := fun q hq => (tlB q).resolve_right hq
  refine Parse.brackets (n := [109, 97, 105, 110]) (k := us.length + 6) (by omega) hok hB.endsOnce (sA (k := 0) (t := tI) rfl).at_ (sA (k := 1) (t := ⟨1, [109, 97, 105, 110], 0, false⟩) rfl).at_ (sA (k := 2) (t := tS 40) rfl).at_ (sA (k := 3) (t := tS 41) rfl).at_ (sA (k := 4) (t := tS 123) rfl).at_ (sA (k := 5) (t := tR) rfl).at_
    ?_ (gA 0 (by omega)).at_ (gA 1 (by omega)).at_ (gA 2 (by omega)).1 (by rw [List.length_map, hA.len, eA]; simp [preM])
    (sB (k := 0) (t := tI) rfl).at_ (sB (k := 1) (t := ⟨1, [109, 97, 105, 110], 0, false⟩) rfl).at_ (sB (k := 2) (t := tS 40) rfl).at_ (sB (k := 3) (t := tS 41) rfl).at_ (sB (k := 4) (t := tS 123) rfl).at_ (sB (k := 5) (t := tR) rfl).at_ (sB (k := 6) (t := tS 40) rfl).at_
    ?_ (gB 0 (by omega)).at_ (gB 1 (by omega)).at_ (gB 2 (by omega)).at_ (gB 3 (by omega)).1 (by rw [List.length_map, hB.len, eB]; simp [preM])
  · intro j h6 hj hc
    obtain ⟨t, ht, h1, _⟩ := mid j h6 hj
    rw [h1.1, h1.2.1] at hc
    exact hp t (List.mem_of_getElem? ht) ⟨by have := hc.1; omega, hc.2⟩
  · intro j h6 hj
    obtain ⟨t, ht, h1, h2⟩ := mid j h6 hj
    exact shows_same h1 h2

/-- How many braces open, less how many close. -/
def cls (t : Tok) : Int := if t.kind = 4 ∧ t.text = [123] then 1 else if t.kind = 4 ∧ t.text = [125] then -1 else 0
def bra : List Tok → Nat → Int
  | _, 0 => 0
  | [], _ + 1 => 0
  | t :: us, n + 1 => cls t + bra us n
theorem bra_succ : ∀ (us : List Tok) (n : Nat) (t : Tok), us[n]? = some t → bra us (n + 1) = bra us n + cls t := by
  intro us
  induction us with
  | nil => intro n t h; simp at h
  | cons x us ih =>
    intro n t h
    cases n with
    | zero =>
      simp at h; subst h
      cases us <;> simp [bra]
    | succ n =>
      have := ih n t (by simpa using h)
      rw [bra, this, bra]; omega
theorem val_cls {l : List Parse.PT} {k : Nat} {t : Tok} (h : Shows l k t) : Parse.val (tokAt l k).kind (tokAt l k).text = cls t := by
  rw [h.1, h.2.1]
  unfold Parse.val cls
  simp only [show ((t.kind : Int) = 4) = (t.kind = 4) by apply propext; omega]
theorem src_blocks {S : Bs} {ts tA tB : List PTok} {us uA uB : List Tok} (h : Src S ts us) (hA : Src (headF ++ (S ++ [10, 125])) tA uA) (hB : Src (headG ++ (S ++ [10, 125, 125])) tB uB)
    (hc : ∀ k, k ≤ us.length → 0 ≤ bra us k) (hok : (Parse.parseAll (tA.map ptOf)).2.2 = 0) :
    ∃ X Y nsA nsB, Parse.parseAll (tA.map ptOf) = (nsA, 0, 0) ∧ Parse.parseAll (tB.map ptOf) = (nsB, 0, 0) ∧ AlikeL X Y ∧ nsA.length = X.length + 3 ∧ nsB.length = X.length + 4 ∧ (∀ i, i < X.length → nsA[i]? = X[i]? ∧ nsB[i]? = Y[i]?) ∧
      (∃ b c, nsB[X.length]? = some b ∧ nsB[X.length + 1]? = some c ∧ b.kind = 22 ∧ c.kind = 22) := by
  have eA : uA = preF ++ (us ++ [tS 125]) := lx_same hA.lx (lx_headF (lx_glue h.lx lx_end3))
  have eB : uB = preF ++ tS 123 :: (us ++ [tS 125, tS 125]) := lx_same hB.lx (lx_headG (lx_glue h.lx lx_end4))
  have sA : ∀ {k : Nat} {t : Tok}, (preF ++ (us ++ [tS 125, endTok]))[k]? = some t → Shows (tA.map ptOf) k t := fun {k t} hk => hA.shows (by rw [eA]; simpa using hk)
  have sB : ∀ {k : Nat} {t : Tok}, (preF ++ tS 123 :: (us ++ [tS 125, tS 125, endTok]))[k]? = some t → Shows (tB.map ptOf) k t := fun {k t} hk => hB.shows (by rw [eB]; simpa using hk)
  have mid : ∀ i t, us[i]? = some t → Shows (tA.map ptOf) (5 + i) t ∧ Shows (tB.map ptOf) (5 + i + 1) t := by
    intro i t hi
    have hlt := (List.getElem?_eq_some_iff.1 hi).1
    refine ⟨sA ?_, sB ?_⟩
    · rw [List.getElem?_append_right (by simp [preF]), List.getElem?_append_left (by simp [preF]; omega)]
      simpa [preF] using hi
    · rw [List.getElem?_append_right (by simp [preF]; omega), show 5 + i + 1 - preF.length = i + 1 by simp [preF]; omega, List.getElem?_cons_succ, List.getElem?_append_left (by omega)]
      exact hi
  have tlA : ∀ q : Nat, q < 2 → Shows (tA.map ptOf) (us.length + 5 + q) (([tS 125, endTok] : List Tok).getD q endTok) := by
    intro q hq
    refine sA ?_
    rw [List.getElem?_append_right (by simp [preF]; omega), List.getElem?_append_right (by simp [preF]; omega), show us.length + 5 + q - preF.length - us.length = q by simp [preF]; omega]
    rw [List.getElem?_eq_getElem (by simpa using hq), List.getD_eq_getElem?_getD, List.getElem?_eq_getElem (by simpa using hq)]
    rfl
  have tlB : ∀ q : Nat, q < 3 → Shows (tB.map ptOf) (us.length + 6 + q) (([tS 125, tS 125, endTok] : List Tok).getD q endTok) := by
    intro q hq
    refine sB ?_
    rw [List.getElem?_append_right (by simp [preF]; omega), show us.length + 6 + q - preF.length = us.length + q + 1 by simp [preF]; omega, List.getElem?_cons_succ, List.getElem?_append_right (by omega), show us.length + q - us.length = q by omega]
    rw [List.getElem?_eq_getElem (by simpa using hq), List.getD_eq_getElem?_getD, List.getElem?_eq_getElem (by simpa using hq)]
    rfl
  have hdep : ∀ i, i ≤ us.length → depth (tA.map ptOf) (5 + i) = depth (tA.map ptOf) 5 + bra us i := by
    intro i
    induction i with
    | zero => intro _; simp [bra]
    | succ i ih =>
      intro hi
      have hgi : us[i]? = some us[i] := List.getElem?_eq_getElem (by omega)
      have hv := val_cls (mid i _ hgi).1
      rw [show 5 + (i + 1) = 5 + i + 1 by omega]
      have e : depth (tA.map ptOf) (5 + i + 1) = depth (tA.map ptOf) (5 + i) + Parse.val (tokAt (tA.map ptOf) (5 + i)).kind (tokAt (tA.map ptOf) (5 + i)).text := rfl
      rw [e, ih (by omega), hv, bra_succ us i _ hgi]
      omega
  refine Parse.blocks (n := [102]) (k := us.length + 5) (by omega) hok hB.endsOnce (sA (k := 0) (t := tI) rfl).at_ (sA (k := 1) (t := ⟨1, [102], 0, false⟩) rfl).at_ (sA (k := 2) (t := tS 40) rfl).at_ (sA (k := 3) (t := tS 41) rfl).at_ (sA (k := 4) (t := tS 123) rfl).at_
    ?_ (tlA 1 (by omega)).1 (by rw [List.length_map, hA.len, eA]; simp [preF])
    (sB (k := 0) (t := tI) rfl).at_ (sB (k := 1) (t := ⟨1, [102], 0, false⟩) rfl).at_ (sB (k := 2) (t := tS 40) rfl).at_ (sB (k := 3) (t := tS 41) rfl).at_ (sB (k := 4) (t := tS 123) rfl).at_ (sB (k := 5) (t := tS 123) rfl).at_
    ?_ (tlB 1 (by omega)).at_ (tlB 2 (by omega)).1 (by rw [List.length_map, hB.len, eB]; simp [preF])
  · intro j h5 hj
    obtain ⟨i, rfl⟩ : ∃ i, j = 5 + i := ⟨j - 5, by omega⟩
    rw [hdep i (by omega)]
    have := hc i (by omega)
    omega
  · intro j h5 hj
    rcases Nat.lt_or_ge j (us.length + 5) with h1 | h1
    · obtain ⟨i, rfl⟩ : ∃ i, j = 5 + i := ⟨j - 5, by omega⟩
      have hgi : us[i]? = some us[i] := List.getElem?_eq_getElem (by omega)
      exact shows_same (mid i _ hgi).1 (mid i _ hgi).2
    · obtain rfl : j = us.length + 5 := by omega
      exact shows_same (tlA 0 (by omega)) (tlB 0 (by omega))

theorem src_joined {S T : Bs} {tA tB tC : List PTok} {uA uB uC : List Tok} (hA : Src S tA uA) (hB : Src T tB uB) (hC : Src (S ++ 10 :: T) tC uC) (hokA : (Parse.parseAll (tA.map ptOf)).2.2 = 0) (hokB : (Parse.parseAll (tB.map ptOf)).2.2 = 0) :
    ∃ X Y Z nsA nsB nsC, Parse.parseAll (tA.map ptOf) = (nsA, 0, 0) ∧ Parse.parseAll (tB.map ptOf) = (nsB, 0, 0) ∧ Parse.parseAll (tC.map ptOf) = (nsC, 0, 0) ∧ (∃ b, nsA = X ++ [b]) ∧ (∃ b, nsB = Y ++ [b]) ∧ (∃ b, nsC = Z ++ [b]) ∧ Z.length = X.length + Y.length ∧
      ∀ (i : Nat) (c : Parse.PN), Z[i]? = some c → ∃ w, (X ++ Y)[i]? = some w ∧ c.kind = w.kind ∧ c.op = w.op ∧ c.name = w.name ∧ c.num = w.num := by
  have eC : uC = uA ++ uB := lx_same hC.lx (lx_glue hA.lx hB.lx)
  subst eC
  refine Parse.joined (u := uA.length) (v := uB.length) hokA hokB hC.endsOnce (by rw [List.length_map, hA.len]) (by rw [List.length_map, hB.len]) (by rw [List.length_map, hC.len]; simp) ?_ ?_
  · intro j hj
    have hgi : uA[j]? = some uA[j] := List.getElem?_eq_getElem hj
    refine shows_same (t := uA[j]) (hA.shows (by rw [List.getElem?_append_left hj]; exact hgi)) (hC.shows ?_)
    rw [List.append_assoc, List.getElem?_append_left hj]; exact hgi
  · intro j hj
    obtain ⟨t, ht⟩ : ∃ t, (uB ++ [endTok])[j]? = some t := ⟨_, List.getElem?_eq_getElem (by simp; omega)⟩
    refine shows_same (t := t) (hB.shows ht) (hC.shows ?_)
    rw [List.append_assoc, List.getElem?_append_right (by omega), Nat.add_sub_cancel_left]; exact ht

theorem src_cuts {S : Bs} {ts : List PTok} {us : List Tok} (h : Src S ts us) (hok : (Parse.parseAll (ts.map ptOf)).2.2 = 0) {k : Nat} (hk : k < ts.length) {p : Nat} (hp : (ts[k]?).map (·.2) = some p) {cut : List Parse.PT} (hc : cut = (ts.take k).map ptOf ++ [⟨0, p, [], 0, false⟩]) :
    Parse.endsOnce cut = true ∧ ((Parse.parseAll cut).2.2 = 0 ∨ ((Parse.parseAll cut).2.2 = 20 ∧ (Parse.parseAll cut).2.1 = p)) := by
  have hl : cut.length = k + 1 := by rw [hc]; simp; omega
  have hlo : ∀ j, j < k → tokAt cut j = tokAt (ts.map ptOf) j := by
    intro j hj
    simp only [tokAt, hc, List.getD_eq_getElem?_getD]
    rw [List.getElem?_append_left (by simp; omega), List.getElem?_map, List.getElem?_map, List.getElem?_take, if_pos hj]
  have hat : tokAt cut k = ⟨0, p, [], 0, false⟩ := by
    simp only [tokAt, hc, List.getD_eq_getElem?_getD]
    rw [List.getElem?_append_right (by simp; omega)]
    simp [Nat.min_eq_left (Nat.le_of_lt hk)]
  have he : Parse.endsOnce cut = true := by
    refine Parse.endsOnce_mk (by omega) (by have := h.many; have := h.len; omega) (fun i hi => ?_)
    rw [hl]
    rcases Nat.lt_or_ge i k with h1 | h1
    · rw [hlo i h1, Parse.endsOnce_iff h.endsOnce (by simp; omega)]
      simp; omega
    · obtain rfl : i = k := by omega
      rw [hat]; simp
  have hpl : (tokAt (ts.map ptOf) k).place = p := by
    obtain ⟨x, hx, rfl⟩ := Option.map_eq_some_iff.1 hp
    rw [tokAt_lt hx]; rfl
  refine ⟨he, ?_⟩
  have := Parse.cuts (A := ts.map ptOf) (B := cut) (k := k) hok (by simpa using hk) he hl hlo (by rw [hat, hpl])
  rw [hpl] at this
  exact this
end Go.Proofs.YteggenldmkbhiaaDoor
