/- A text is gone through, rune by rune. No condition but sizes. -/
import Derived.Test.YthojmbljlehpbaaGreatDoorG32
namespace Go.Proofs.YthojmbljlehpbaaGreatDoor.Lists
open Go.RowKit Go.Proofs.YthojmbljlehpbaaGreatDoor.Relax Go.Proofs.YthojmbljlehpbaaGreatDoor.Graph
open Go.Lib hiding intOf
open Go.Proofs.YthojmbljlehpbaaGreatDoor.Enc hiding below_one bt ret_bool

theorem endW_none (r : Rd) : (endW r).cur = none := by
  unfold endW
  split
  · assumption
  · rfl
theorem endL_cur (r : Rd) : (endL r).cur = r.cur := by
  unfold endL
  split
  · rfl
  · split <;> rfl
/-- What taking a rune leaves. -/
def StepQ [ItP] (B rb ob : Nat) (s : List UInt8) (r' : Rd) (k : Nat) (w : World) (e : Ending) (w' : World) : Prop :=
  e = .returned (.tuple #[]) ∧ ∃ bg vw vl, RdR B rb ob s bg r' vw vl w' ∧ Below B w w' ∧ BegR s k r'.cur bg ∧ CntR k r'
theorem take_step [ItP] (B rb ob pos : Nat) (bg : Int) (s : List UInt8) (r : Rd) (vw vl : Value) (w : World) (h : RdR B rb ob s bg r vw vl w) (hbg : BegR s pos r.cur bg) (hp : pos < s.length) (hs : s.length ≤ 281474976710656) (hk : CntR pos r) (hw : r.wrong = false) :
    Calls Tryz.prog 65 #[.pointer (some ⟨rb, 0, none⟩), .int .i64 (pos : Int), .int .i32 ((Utf8.decode ⟨s.toArray⟩ pos).1 : Int)] w (StepQ B rb ob s (readR ((s.drop pos).take (Utf8.decode ⟨s.toArray⟩ pos).2) r) (pos + (Utf8.decode ⟨s.toArray⟩ pos).2) w) ∧ pos + (Utf8.decode ⟨s.toArray⟩ pos).2 ≤ s.length ∧ 1 ≤ (Utf8.decode ⟨s.toArray⟩ pos).2 := by
  have hg0 : (⟨s.toArray⟩ : ByteArray).get! (pos + 0) = s[pos] := get_list s (pos + 0) hp
  have hsz := size_list s
  by_cases h8 : (s[pos]).toNat < 128
  · have hd : Utf8.decode ⟨s.toArray⟩ pos = ((s[pos]).toNat, 1) := by
      unfold Utf8.decode
      simp only [hg0, h8, if_true]
    rw [hd]
    refine ⟨?_, hp, Nat.le_refl _⟩
    have hb : s[pos]? = some s[pos] := List.getElem?_eq_getElem hp
    have e1 : (s.drop pos).take 1 = [s[pos]] := by rw [List.take_one, List.head?_drop, hb]; rfl
    obtain ⟨b, hbb⟩ : ∃ b, b = s[pos] := ⟨_, rfl⟩
    rw [← hbb] at h8 hb e1 ⊢
    simp only
    rw [e1, read_cons, read_nil, step_of hw]
    clear hg0 hd hbb e1
    have fin : ∀ (c : Int), c = (b.toNat : Int) → ∀ n : Nat, b.toNat = n → c = n := fun c h n hn => by omega
    by_cases b10 : b = 10
    · subst b10
      refine (take_nl B rb ob pos pos bg s r vw vl w h hbg (Nat.le_of_lt hp) hs hk (by omega)).mono ?_
      rintro e w' ⟨rfl, vw', vl', h', hb'⟩
      refine ⟨rfl, -1, vw', vl', h', hb', .inl ⟨(endL_cur _).trans (endW_none r), rfl⟩, cnt_endL (cnt_endW hk)⟩
    · by_cases b59 : b = 59
      · subst b59
        have et : takeB r 59 = { endW r with remark := true } := by unfold takeB; simp
        rw [et]
        refine (take_rem B rb ob pos bg s r vw vl w h hbg (Nat.le_of_lt hp) hs hk.1).mono ?_
        rintro e w' ⟨rfl, vw', vl', h', hb'⟩
        exact ⟨rfl, -1, vw', vl', h', hb', .inl ⟨endW_none r, rfl⟩, cnt_mono (cnt_endW hk) (Nat.le_succ _)⟩
      · by_cases b32 : b = 32
        · subst b32
          have et : takeB r 32 = { endW r with remark := r.remark } := by unfold takeB; simp
          rw [et]
          refine (take_sp B rb ob pos bg s r vw vl w h hbg (Nat.le_of_lt hp) hs hk.1).mono ?_
          rintro e w' ⟨rfl, vw', vl', h', hb'⟩
          exact ⟨rfl, -1, vw', vl', h', hb', .inl ⟨endW_none r, rfl⟩, cnt_mono (cnt_endW hk) (Nat.le_succ _)⟩
        · by_cases b9 : b = 9
          · subst b9
            have et : takeB r 9 = { endW r with remark := r.remark } := by unfold takeB; simp
            rw [et]
            refine (take_tab B rb ob pos bg s r vw vl w h hbg (Nat.le_of_lt hp) hs hk.1).mono ?_
            rintro e w' ⟨rfl, vw', vl', h', hb'⟩
            exact ⟨rfl, -1, vw', vl', h', hb', .inl ⟨endW_none r, rfl⟩, cnt_mono (cnt_endW hk) (Nat.le_succ _)⟩
          · rw [take_oth ⟨b10, b59, b32, b9⟩]
            have ne : ∀ n : Nat, n < 256 → ¬ b = UInt8.ofNat n → ¬ ((b.toNat : Int) = (n : Int)) := fun n hn h0 e => h0 (by
              apply UInt8.toNat_inj.1
              rw [UInt8.toNat_ofNat', Nat.mod_eq_of_lt hn]
              omega)
            refine (take_other B rb ob pos (b.toNat : Int) bg s r vw vl w h hbg (ne 10 (by omega) b10) (ne 59 (by omega) b59) (ne 32 (by omega) b32) (ne 9 (by omega) b9)).mono ?_
            rintro e w' ⟨rfl, h', hb'⟩
            obtain ⟨c, h1, h2⟩ := beg_step hbg hb
            rw [h1]
            exact ⟨rfl, _, vw, vl, ⟨h'.box, h'.words, h'.lines, h'.ops, h'.hB, h'.h8, h'.laid, h'.it⟩, hb', h2, cnt_mono hk (Nat.le_succ _)⟩
  · obtain ⟨d1, d2, d3⟩ := decode_wide ⟨s.toArray⟩ pos (by rw [hsz]; exact hp) (by rw [hg0]; exact h8)
    obtain ⟨wd, hwd⟩ : ∃ wd, wd = (Utf8.decode ⟨s.toArray⟩ pos).2 := ⟨_, rfl⟩
    obtain ⟨c, hc⟩ : ∃ c, c = (Utf8.decode ⟨s.toArray⟩ pos).1 := ⟨_, rfl⟩
    rw [← hwd] at d2 d3 ⊢
    rw [← hc] at d1 ⊢
    obtain ⟨k, rfl⟩ : ∃ k, wd = k + 1 := ⟨wd - 1, by omega⟩
    have hend := (d3 k (by omega)).1
    rw [hsz] at hend
    refine ⟨?_, by omega, by omega⟩
    have hj : ∀ j, j < k + 1 → ∃ b, s[pos + j]? = some b ∧ othB b := fun j hj => by
      have h1 := d3 j hj
      rw [hsz] at h1
      refine ⟨s[pos + j], List.getElem?_eq_getElem h1.1, ?_⟩
      have h2 := h1.2
      rw [get_list s (pos + j) h1.1] at h2
      exact ⟨fun e => by rw [e] at h2; exact absurd h2 (by decide), fun e => by rw [e] at h2; exact absurd h2 (by decide), fun e => by rw [e] at h2; exact absurd h2 (by decide), fun e => by rw [e] at h2; exact absurd h2 (by decide)⟩
    obtain ⟨cu, h1, h2⟩ := beg_run hbg hw k hj
    rw [h1]
    refine (take_other B rb ob pos (c : Int) bg s r vw vl w h hbg (by omega) (by omega) (by omega) (by omega)).mono ?_
    rintro e w' ⟨rfl, h', hb'⟩
    exact ⟨rfl, _, vw, vl, ⟨h'.box, h'.words, h'.lines, h'.ops, h'.hB, h'.h8, h'.laid, h'.it⟩, hb', h2, cnt_mono hk (by omega)⟩
/-- The string's iterator is moved. -/
theorem RdR.moved {i j : ItP} {B rb ob k pos pos' : Nat} {bg : Int} {s : List UInt8} {r : Rd} {vw vl : Value} {w : World} (hi : i.at_ = some (k, pos)) (hj : j.at_ = some (k, pos')) (hk : B ≤ k) (h : @RdR i B rb ob s bg r vw vl w) :
    @RdR j B rb ob s bg r vw vl (w.iterAt k ⟨s.toArray⟩ pos') := by
  obtain ⟨hbox, hwords, hlines, hops, hB, h8, hlaid, hitr⟩ := h
  have hit := hitr k pos hi
  have hg : w.grownBy (w.iterAt k ⟨s.toArray⟩ pos') (some k) := ⟨rfl, rfl, rfl, by rw [iterAt_size]; exact Nat.le_refl _, fun q hq hne => iterAt_other w k q _ _ (fun e => hne (by rw [e]))⟩
  have hne : ∀ {Bq sz n : Nat} {T : TypeId} {v : Value} {xs : List Value}, w.ownsRow Bq T sz v n xs → (w.iterAt k ⟨s.toArray⟩ pos').ownsRow Bq T sz v n xs := fun ho => own_keepG ho (fun q hq => by
    refine iterAt_other w k q _ _ (fun e => ?_)
    subst e
    obtain ⟨_, cs, h1⟩ := own_ltG ho hq
    rw [hit] at h1
    injection h1 with h1
    cases h1)
  refine ⟨?_, hne hwords, ?_, ?_, hB, h8, hlaid.belowB h8 (below_iterAt (Below.refl B w) hk _ _), fun k2 p2 e => ?_⟩
  · refine (iterAt_other w k rb _ _ (fun e => ?_)).trans hbox
    have hb := hbox
    rw [e, hit] at hb
    injection hb with hb
    cases hb
  · obtain ⟨ps, h1, h2, h3⟩ := hlines
    exact ⟨ps, h1, hne h2, fun q hq => hne (h3 q hq)⟩
  · have h2 := hops
    unfold OpsAt at h2 ⊢
    refine h2.kept hg (fun e => ?_)
    injection e with e
    obtain ⟨es, clock, hb, _⟩ := h2
    rw [e, hit] at hb
    injection hb with hb
    cases hb
  · rw [hj] at e
    injection e with e
    injection e with e1 e2
    subst e1 e2
    exact iterAt_heap w k _ _ _ hit
theorem RdR.re {i : ItP} (j : ItP) {B rb ob : Nat} {bg : Int} {s : List UInt8} {r : Rd} {vw vl : Value} {w : World} (h : @RdR i B rb ob s bg r vw vl w) (hj : @ItR j s w) : @RdR j B rb ob s bg r vw vl w := by
  obtain ⟨hbox, hwords, hlines, hops, hB, h8, hlaid, _⟩ := h
  exact ⟨hbox, hwords, hlines, hops, hB, h8, hlaid, hj⟩
end Go.Proofs.YthojmbljlehpbaaGreatDoor.Lists
