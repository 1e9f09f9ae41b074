/- The map of the labels of a list; the first line that may not be: the program's own answers. No condition but that lists lie as they say. -/
import Derived.Test.YtmnhafncdblklaaDoorAh
namespace Go.Proofs.YtmnhafncdblklaaDoor.Relax
open Go.RowKit Go.Proofs.YtmnhafncdblklaaDoor.Enc Go.Proofs.YtmnhafncdblklaaDoor.Graph Go.Maps

theorem lines_pt {w : World} {p : Option Addr} {n c : Nat} {l : List PL} (h : LinesR w (.slice p n c) l) {k : Nat} (hk : k < l.length) :
    ∃ b o x vl, p = some ⟨b, o, none⟩ ∧ l[k]? = some x ∧ b < w.heap.size ∧ LineR w b (o + k * 7) x vl ∧ n ≤ c ∧ c ≤ 9223372036854775807 := by
  obtain ⟨b, o, c', h1, h2, h3, h4⟩ := SlR.form2 h (by omega)
  injection h1 with h1 h5 h6
  subst h1 h5 h6
  obtain ⟨x, hx⟩ : ∃ x, l[k]? = some x := ⟨_, List.getElem?_eq_getElem hk⟩
  obtain ⟨vl, hv⟩ := h4 k hk x hx
  exact ⟨b, o, x, vl, rfl, hx, h3, hv, h2.1, h2.2⟩
theorem MapAt.below {w w' : World} {b n : Nat} {l : List PL} {i : Nat} (h : MapAt w b n l i) (hb : Below w.heap.size w w') : MapAt w' b n l i := by
  obtain ⟨es, clock, h1, h2⟩ := h
  exact ⟨es, clock, (hb.block b (by exact (Array.getElem?_eq_some_iff.1 h1).1)).trans h1, h2⟩
/-- The labels that a line goes to. -/
def goalsP (x : PL) : List Int := if leadB x.op then [x.label] else x.list
def GoalsPost (x : PL) (w : World) (e : Ending) (w' : World) : Prop := ∃ p c, e = .returned (.slice p (goalsP x).length c) ∧ IntsR w' (.slice p (goalsP x).length c) (goalsP x) ∧ Below w.heap.size w w'
set_option maxHeartbeats 2000000 in
theorem goals_prog (x : PL) (p : Option Addr) (c : Nat) (w : World) (hL : IntsR w (.slice p x.list.length c) x.list) : Calls Tryd.prog 46 #[lineV x p x.list.length c] w (GoalsPost x w) := by
  obtain ⟨br, hbr⟩ : ∃ br, leadB x.op = br := ⟨_, rfl⟩
  have HB := Lib.hid (fun w => hbr ▸ leads_prog x.op w)
  have HI := Lib.hid hL
  have HE := Lib.hid hbr
  clear hbr hL
  obtain ⟨op, a, b, imm, nn, label, list⟩ := x
  simp only at HB HI HE
  unfold lineV
  simp only
  cases br
  · have HG := Lib.hid (show goalsP ⟨op, a, b, imm, nn, label, list⟩ = list by unfold goalsP; rw [if_neg (by simp [HE.out])])
    generalize hn : list.length = n at *
    have HN := Lib.hid hn
    clear hn
    go_enter Tryd.func46, Tryd.ntmps46
    go_wp2_with (go_at_call 62; refine (HB.out _).mono ?_; rintro e w2 ⟨rfl, rfl⟩)
    go_ret
    exact ⟨p, c, by rw [HG.out, HN.out]; rfl, by rw [HG.out, HN.out]; exact HI.out.below (below_one w _), below_one _ _⟩
  · have HG := Lib.hid (show goalsP ⟨op, a, b, imm, nn, label, list⟩ = [label] by unfold goalsP; rw [if_pos HE.out])
    generalize hn : list.length = n at *
    clear hn
    go_enter Tryd.func46, Tryd.ntmps46
    go_wp2_with (go_at_call 62; refine (HB.out _).mono ?_; rintro e w2 ⟨rfl, rfl⟩)
    go_ret
    refine ⟨some ⟨w.heap.size + 1, 0, none⟩, 1, by rw [HG.out]; rfl, ?_, (below_one _ _).alloc (by simp) _⟩
    rw [HG.out]
    refine .inr ⟨w.heap.size + 1, 0, 1, rfl, by simp, ⟨by simp, by decide⟩, by simp, fun i hi y hy => ?_⟩
    have : i = 0 := by simpa using hi
    subst this
    injection hy with hy
    subst hy
    go_simp
/-- What the search for labels answers. -/
def FLPost (l : List PL) (w : World) (e : Ending) (w' : World) : Prop :=
  (∃ (i : Nat) (er : Int), firstErr (lineErr l) 0 l.length = some (i, er) ∧ e = .returned (.tuple #[.map none, .int .i64 i, .int .i64 er]) ∧ Below w.heap.size w w') ∨
  (firstErr (lineErr l) 0 l.length = none ∧ ∃ bm, e = .returned (.tuple #[.map (some bm), .int .i64 0, .int .i64 0]) ∧ MapAt w' bm 60000 l l.length ∧ w.heap.size ≤ bm ∧ Below w.heap.size w w')
theorem lineErr_wrong {l : List PL} {k : Nat} {x : PL} (hx : l[k]? = some x) : lineErr l k = if wrongL x = 0 then (if x.op = 0 ∧ (standsAt l x.label k).isSome then 172 else 0) else wrongL x := by
  unfold lineErr wrongL
  rw [lineAt_of hx]
  by_cases h1 : x.op < 0 ∨ 48 < x.op
  · rw [if_pos h1, if_pos h1]; rfl
  · rw [if_neg h1, if_neg h1]
    cases mayL x <;> rfl
theorem firstErr_step {f : Nat → Int} {n k : Nat} (hk : k < n) (h : f k = 0) : firstErr f k (n - k) = firstErr f (k + 1) (n - (k + 1)) := by
  obtain ⟨m, hm⟩ : ∃ m, n - k = m + 1 := ⟨n - k - 1, by omega⟩
  rw [hm, show n - (k + 1) = m by omega]
  show (if f k = 0 then _ else _) = _
  rw [if_pos h]
theorem firstErr_hit {f : Nat → Int} {n k : Nat} (hk : k < n) (h : f k ≠ 0) : firstErr f k (n - k) = some (k, f k) := by
  obtain ⟨m, hm⟩ : ∃ m, n - k = m + 1 := ⟨n - k - 1, by omega⟩
  rw [hm]
  show (if f k = 0 then _ else _) = _
  rw [if_neg h]
theorem wrong_label {x : PL} (h : wrongL x = 0) (h0 : x.op = 0) : 0 ≤ x.label ∧ x.label ≤ 100000 := by
  unfold wrongL at h
  rw [if_neg (by omega)] at h
  split at h
  · rename_i hm
    unfold mayL at hm
    rw [if_pos h0] at hm
    simp only [Bool.and_eq_true] at hm
    have := hm.2
    unfold labelB at this
    simpa using this
  · cases h
set_option maxHeartbeats 8000000 in
set_option maxRecDepth 100000 in
theorem findLabels_prog (l : List PL) (p : Option Addr) (c : Nat) (w : World) (hl : LinesR w (.slice p l.length c) l) (hs : SmL l) (h6 : l.length ≤ 60000) (hF : FormsAt w) :
    Calls Tryd.prog 27 #[.slice p l.length c] w (FLPost l w) := by
  obtain ⟨n, hn⟩ : ∃ n, n = l.length := ⟨_, rfl⟩
  rw [← hn] at h6 ⊢
  have HL := Lib.hid (hn ▸ hl : LinesR w (.slice p n c) l)
  have HN := Lib.hid hn
  have HS := Lib.hid hs
  have HF := Lib.hid hF
  clear hl hn hs hF
  have hmm := @run_makeMap Tryd.prog
  have m0 : (n : Int) ≤ 60000 := by omega
  go_enter Tryd.func27, Tryd.ntmps27
  go_wp2
  go_loopw [6, 13] (fun q i wr => ∃ k : Nat, k ≤ n ∧ q = .int .i64 (partN l k) ∧ i = .int .i64 k ∧ Hid (firstErr (lineErr l) 0 n = firstErr (lineErr l) k (n - k)) ∧ Hid (MapAt wr w.heap.size k l k) ∧ w.heap.size < wr.heap.size ∧ Hid (Below w.heap.size w wr)) (fun _ i _ => n - (intOf i).toNat)
  case atStart => exact ⟨0, Nat.zero_le _, rfl, rfl, Lib.hid rfl, Lib.hid (World.ownsMap_made _ _ _ _), by simp, Lib.hid (below_one _ _)⟩
  case round =>
    obtain ⟨k, hk, rfl, rfl, HP, HM, hsz, HB⟩ := hrel
    by_cases hlt : k < n
    · obtain ⟨b, o, x, vl, rfl, hx, hbl, hr, hc1, hc2⟩ := lines_pt HL.out (k := k) (by have := HN.out; omega)
      replace hr := hr.below hbl HB.out
      obtain ⟨vp, vc, rfl⟩ := hr.list.form
      have HI := Lib.hid hr.list
      have HX := Lib.hid hx
      have hll := HS.out.2 x (List.mem_of_getElem? hx)
      obtain ⟨c0, c1, c2, c3, c4, c5, c6, _⟩ := hr
      have l0 : b < wr.heap.size := Nat.lt_of_lt_of_le hbl HB.out.size
      have HX0 := Lib.hid (BoxL.start wr 45 x (.slice vp x.list.length vc))
      have HQ := Lib.hid (lineErr_wrong hx)
      have HO := Lib.hid (lineAt_of hx)
      have q0 : (0 : Int) ≤ partN l k := by omega
      have q1 : (partN l k : Int) ≤ 60000 := by have := partN_le l k; omega
      have HW := Lib.hid (fun w hF hL => wrong_prog x vp vc w hF hL hll)
      have i0 : (0 : Int) ≤ k := by omega
      have i1 : (k : Int) < n := by omega
      have hkn := HN.out
      by_cases he : wrongL x = 0
      case neg =>
        have HE := Lib.hid he
        generalize wrongL x = e0 at *
        have g1 : (e0 == 0) = false := by simpa using he
        have g2 : (e0 != 0) = true := by simpa using he
        clear hx hll he hkn
        go_wp2_with (go_at_call 44; refine (HW.out _ ((HF.out.below HB.out).alloc _) (HI.out.below (below_one _ _))).mono ?_; rintro e w2 ⟨rfl, hb⟩; have HB1 := Lib.hid (HX0.out.next hb); obtain ⟨_, z1, d0, d1, d2, d3, d4, d5, d6⟩ := HB1.out; clear hb)
        go_ret3
        refine .inl ⟨k, e0, ?_, rfl, bt HB.out HB1.out.b⟩
        have h1 : lineErr l k = e0 := by rw [HQ.out, if_neg HE.out]
        rw [← HN.out, HP.out, firstErr_hit hlt (by rw [h1]; exact HE.out), h1]
      by_cases ho : x.op = 0
      case neg =>
        have HE := Lib.hid he
        have HO2 := Lib.hid ho
        rw [he] at HW
        have g1 : (x.op == 0) = false := by simpa using ho
        have g2 : (x.op != 0) = true := by simpa using ho
        clear hx hll he hkn ho
        go_wp2_with (go_at_call 44; refine (HW.out _ ((HF.out.below HB.out).alloc _) (HI.out.below (below_one _ _))).mono ?_; rintro e w2 ⟨rfl, hb⟩; have HB1 := Lib.hid (HX0.out.next hb); obtain ⟨_, z1, d0, d1, d2, d3, d4, d5, d6⟩ := HB1.out; clear hb)
        go_roundw
        case rel =>
          refine ⟨k + 1, by omega, ?_, by go_num, Lib.hid ?_, Lib.hid ?_, Nat.lt_trans hsz z1, Lib.hid (bt HB.out HB1.out.b)⟩
          · rw [partN_one (by rw [HO.out]; exact HO2.out)]; go_num
          · rw [HP.out, firstErr_step hlt (by rw [HQ.out, if_pos HE.out, if_neg (fun h => HO2.out h.1)])]
          · have hm := (HM.out.below HB1.out.b).mono (Nat.le_succ k)
            have e2 : mapD l (k + 1) = mapD l k := by unfold mapD; rw [if_neg (by rw [HO.out]; exact HO2.out)]; cases k <;> rfl
            rw [MapAt, e2]; exact hm
        case measure => simp [intOf]; omega
      have hlab := wrong_label he ho
      obtain ⟨sb, hsb⟩ : ∃ sb, (standsAt l x.label k).isSome = sb := ⟨_, rfl⟩
      have HT := Lib.hid (fun w1 hM => hsb ▸ stands_prog w.heap.size k l k x.label hlab w1 hM)
      have HK := Lib.hid (key_of hlab)
      have HSB := Lib.hid hsb
      have HE := Lib.hid he
      have HO2 := Lib.hid ho
      rw [he] at HW
      have g1 : (x.op == 0) = true := by simpa using ho
      have g2 : (x.op != 0) = false := by simpa using ho
      clear hx hll he hkn ho hsb hlab
      cases sb
      · go_wp2_with (first | (go_at_call 44; refine (HW.out _ ((HF.out.below HB.out).alloc _) (HI.out.below (below_one _ _))).mono ?_; rintro e w2 ⟨rfl, hb⟩; have HB1 := Lib.hid (HX0.out.next hb); obtain ⟨_, z1, d0, d1, d2, d3, d4, d5, d6⟩ := HB1.out; clear hb) | (go_at_call 45; refine (HT.out _ (HM.out.below HB1.out.b)).mono ?_; rintro e w3 ⟨rfl, hb⟩; have HB2 := Lib.hid (HB1.out.next hb); obtain ⟨_, z2, e0, e1, e2, e3, e4, e5, e6⟩ := HB2.out; clear hb) | (at_mapUpdate; refine wpList_mapUpdate_own _ rfl _ _ _ 59 rfl 3 3 law Tryd.underlying59 _ w.heap.size k _ rfl (HM.out.below HB2.out.b) (by unfold maxLen; omega) _ _ _ rfl rfl HK.out _ [] (plainElem_int Tryd.underlying3 (WalkArith.wf_i64 (by omega))) ?_; intro w4 hown1 hgrow1; have HG := Lib.hid hgrow1; have HOW := Lib.hid hown1; clear hgrow1 hown1))
        go_roundw
        case rel =>
          have hgs := HG.out.size
          refine ⟨k + 1, by omega, ?_, by go_num, Lib.hid ?_, Lib.hid ?_, by omega, Lib.hid (Below.grown (bt HB.out HB2.out.b) HG.out (by omega) (fun q hq => by injection hq with hq; omega))⟩
          · rw [partN_same (by rw [HO.out]; exact HO2.out)]
          · rw [HP.out, firstErr_step hlt (by rw [HQ.out, if_pos HE.out, if_neg (by rw [HSB.out]; simp)])]
          · have e2 : mapD l (k + 1) = (mapD l k).put (lit x.label) (.lit (lit (partN l k))) := by
              show (if (lineAt l k).op = 0 then _ else _) = _
              rw [if_pos (by rw [HO.out]; exact HO2.out), HO.out]
            rw [MapAt, e2]; exact HOW.out
        case measure => simp [intOf]; omega
      · go_wp2_with (first | (go_at_call 44; refine (HW.out _ ((HF.out.below HB.out).alloc _) (HI.out.below (below_one _ _))).mono ?_; rintro e w2 ⟨rfl, hb⟩; have HB1 := Lib.hid (HX0.out.next hb); obtain ⟨_, z1, d0, d1, d2, d3, d4, d5, d6⟩ := HB1.out; clear hb) | (go_at_call 45; refine (HT.out _ (HM.out.below HB1.out.b)).mono ?_; rintro e w3 ⟨rfl, hb⟩; have HB2 := Lib.hid (HB1.out.next hb); obtain ⟨_, z2, e0, e1, e2, e3, e4, e5, e6⟩ := HB2.out; clear hb))
        go_ret3
        refine .inl ⟨k, 172, ?_, rfl, bt HB.out HB2.out.b⟩
        have h1 : lineErr l k = 172 := by rw [HQ.out, if_pos HE.out, if_pos ⟨HO2.out, HSB.out⟩]
        rw [← HN.out, HP.out, firstErr_hit hlt (by rw [h1]; decide), h1]
    · have hkn : k = n := by omega
      subst hkn
      have i1 : ¬ ((k : Int) < (k : Int)) := by omega
      go_wp2
      go_ret3
      refine .inr ⟨?_, w.heap.size, rfl, ?_, Nat.le_refl _, HB.out⟩
      · rw [← HN.out, HP.out, Nat.sub_self]; rfl
      · rw [← HN.out]; exact HM.out.mono h6
end Go.Proofs.YtmnhafncdblklaaDoor.Relax
