/- The map of the labels of a list; the first line that may not be: the program's own answers. No condition but that lists lie as they say. -/
import Derived.Test.YthojmbljlehpbaaGreatDoorG08
import Derived.Test.YthojmbljlehpbaaGreatDoorG06
import Derived.Deep.DeepAppendWide
import Derived.RegionTactic
import Derived.BigRegion
namespace Go.Proofs.YthojmbljlehpbaaGreatDoor.Relax
open Go.RowKit Go.Proofs.YthojmbljlehpbaaGreatDoor.Enc Go.Proofs.YthojmbljlehpbaaGreatDoor.Graph Go.Maps

theorem lines_pt {w : World} {p : Option Addr} {n c : Nat} {l : List PL} (h : LinesR w (.slice p n c) l) {k : Nat} (hk : k < l.length) :
    ∃ b o x vl, p = some ⟨b, o, none⟩ ∧ l[k]? = some x ∧ b < w.heap.size ∧ LineR w b (o + k * 7) x vl ∧ n ≤ c ∧ c ≤ 9223372036854775807 := by
  obtain ⟨b, o, c', h1, h2, h3, h4⟩ := SlR.form2 h (by omega)
  injection h1 with h1 h5 h6
  subst h1 h5 h6
  obtain ⟨x, hx⟩ : ∃ x, l[k]? = some x := ⟨_, List.getElem?_eq_getElem hk⟩
  obtain ⟨vl, hv⟩ := h4 k hk x hx
  exact ⟨b, o, x, vl, rfl, hx, h3, hv, h2.1, h2.2⟩
theorem MapAt.below {w w' : World} {b n : Nat} {l : List PL} {i : Nat} (h : MapAt w b n l i) (hb : Below w.heap.size w w') : MapAt w' b n l i := by
  obtain ⟨es, clock, h1, h2⟩ := h
  exact ⟨es, clock, (hb.block b (by exact (Array.getElem?_eq_some_iff.1 h1).1)).trans h1, h2⟩
/-- The labels that a line goes to. -/
def goalsP (x : PL) : List Int := if leadB x.op then [x.label] else x.list
def GoalsPost (x : PL) (w : World) (e : Ending) (w' : World) : Prop := ∃ p c, e = .returned (.slice p (goalsP x).length c) ∧ IntsR w' (.slice p (goalsP x).length c) (goalsP x) ∧ Below w.heap.size w w'
set_option maxHeartbeats 2000000 in
theorem goals_prog (x : PL) (p : Option Addr) (c : Nat) (w : World) (hL : IntsR w (.slice p x.list.length c) x.list) : Calls Tryz.prog 81 #[lineV x p x.list.length c] w (GoalsPost x w) := by
  obtain ⟨br, hbr⟩ : ∃ br, leadB x.op = br := ⟨_, rfl⟩
  have HB := Lib.hid (fun w => hbr ▸ leads_prog x.op w)
  have HI := Lib.hid hL
  have HE := Lib.hid hbr
  clear hbr hL
  obtain ⟨op, a, b, imm, nn, label, list⟩ := x
  simp only at HB HI HE
  unfold lineV
  simp only
  cases br
  · have HG := Lib.hid (show goalsP ⟨op, a, b, imm, nn, label, list⟩ = list by unfold goalsP; rw [if_neg (by simp [HE.out])])
    generalize hn : list.length = n at *
    have HN := Lib.hid hn
    clear hn
    go_enter Tryz.func81, Tryz.ntmps81
    go_wp2_with (go_at_call 115; refine (HB.out _).mono ?_; rintro e w2 ⟨rfl, rfl⟩)
    go_ret
    exact ⟨p, c, by rw [HG.out, HN.out]; rfl, by rw [HG.out, HN.out]; exact HI.out.below (below_one w _), below_one _ _⟩
  · have HG := Lib.hid (show goalsP ⟨op, a, b, imm, nn, label, list⟩ = [label] by unfold goalsP; rw [if_pos HE.out])
    generalize hn : list.length = n at *
    clear hn
    go_enter Tryz.func81, Tryz.ntmps81
    go_wp2_with (go_at_call 115; refine (HB.out _).mono ?_; rintro e w2 ⟨rfl, rfl⟩)
    go_ret
    refine ⟨some ⟨w.heap.size + 1, 0, none⟩, 1, by rw [HG.out]; rfl, ?_, (below_one _ _).alloc (by simp) _⟩
    rw [HG.out]
    refine .inr ⟨w.heap.size + 1, 0, 1, rfl, by simp, ⟨by simp, by decide⟩, by simp, fun i hi y hy => ?_⟩
    have : i = 0 := by simpa using hi
    subst this
    injection hy with hy
    subst hy
    go_simp
/-- What the search for labels answers. -/
def FLPost (l : List PL) (w : World) (e : Ending) (w' : World) : Prop :=
  (∃ (i : Nat) (er : Int), firstErr (lineErr l) 0 l.length = some (i, er) ∧ e = .returned (.tuple #[.map none, .int .i64 i, .int .i64 er]) ∧ Below w.heap.size w w') ∨
  (firstErr (lineErr l) 0 l.length = none ∧ ∃ bm, e = .returned (.tuple #[.map (some bm), .int .i64 0, .int .i64 0]) ∧ MapAt w' bm 60000 l l.length ∧ w.heap.size ≤ bm ∧ Below w.heap.size w w')
theorem lineErr_wrong {l : List PL} {k : Nat} {x : PL} (hx : l[k]? = some x) : lineErr l k = if wrongL x = 0 then (if x.op = 0 ∧ (standsAt l x.label k).isSome then 172 else 0) else wrongL x := by
  unfold lineErr wrongL
  rw [lineAt_of hx]
  by_cases h1 : x.op < 0 ∨ 48 < x.op
  · rw [if_pos h1, if_pos h1]; rfl
  · rw [if_neg h1, if_neg h1]
    cases mayL x <;> rfl
theorem firstErr_step {f : Nat → Int} {n k : Nat} (hk : k < n) (h : f k = 0) : firstErr f k (n - k) = firstErr f (k + 1) (n - (k + 1)) := by
  obtain ⟨m, hm⟩ : ∃ m, n - k = m + 1 := ⟨n - k - 1, by omega⟩
  rw [hm, show n - (k + 1) = m by omega]
  show (if f k = 0 then _ else _) = _
  rw [if_pos h]
theorem firstErr_hit {f : Nat → Int} {n k : Nat} (hk : k < n) (h : f k ≠ 0) : firstErr f k (n - k) = some (k, f k) := by
  obtain ⟨m, hm⟩ : ∃ m, n - k = m + 1 := ⟨n - k - 1, by omega⟩
  rw [hm]
  show (if f k = 0 then _ else _) = _
  rw [if_neg h]
theorem wrong_label {x : PL} (h : wrongL x = 0) (h0 : x.op = 0) : 0 ≤ x.label ∧ x.label ≤ 100000 := by
  unfold wrongL at h
  rw [if_neg (by omega)] at h
  split at h
  · rename_i hm
    unfold mayL at hm
    rw [if_pos h0] at hm
    simp only [Bool.and_eq_true] at hm
    have := hm.2
    unfold labelB at this
    simpa using this
  · cases h
set_option maxHeartbeats 8000000 in
set_option maxRecDepth 100000 in
theorem findLabels_prog (l : List PL) (p : Option Addr) (c : Nat) (w : World) (hl : LinesR w (.slice p l.length c) l) (hs : SmL l) (h6 : l.length ≤ 60000) (hF : FormsAt w) :
    Calls Tryz.prog 47 #[.slice p l.length c] w (FLPost l w) := by
  obtain ⟨n, hn⟩ : ∃ n, n = l.length := ⟨_, rfl⟩
  rw [← hn] at h6 ⊢
  have HL := Lib.hid (hn ▸ hl : LinesR w (.slice p n c) l)
  have HN := Lib.hid hn
  have HS := Lib.hid hs
  have HF := Lib.hid hF
  clear hl hn hs hF
  have hmm := @run_makeMap Tryz.prog
  have m0 : (n : Int) ≤ 60000 := by omega
  go_enter Tryz.func47, Tryz.ntmps47
  go_wp2
  go_loopw [6, 13] (fun q i wr => ∃ k : Nat, k ≤ n ∧ q = .int .i64 (partN l k) ∧ i = .int .i64 k ∧ Hid (firstErr (lineErr l) 0 n = firstErr (lineErr l) k (n - k)) ∧ Hid (MapAt wr w.heap.size k l k) ∧ w.heap.size < wr.heap.size ∧ Hid (Below w.heap.size w wr)) (fun _ i _ => n - (intOf i).toNat)
  case atStart => exact ⟨0, Nat.zero_le _, rfl, rfl, Lib.hid rfl, Lib.hid (World.ownsMap_made _ _ _ _), by simp, Lib.hid (below_one _ _)⟩
  case round =>
    obtain ⟨k, hk, rfl, rfl, HP, HM, hsz, HB⟩ := hrel
    by_cases hlt : k < n
    · obtain ⟨b, o, x, vl, rfl, hx, hbl, hr, hc1, hc2⟩ := lines_pt HL.out (k := k) (by have := HN.out; omega)
      replace hr := hr.below hbl HB.out
      obtain ⟨vp, vc, rfl⟩ := hr.list.form
      have HI := Lib.hid hr.list
      have HX := Lib.hid hx
      have hll := HS.out.2 x (List.mem_of_getElem? hx)
      obtain ⟨c0, c1, c2, c3, c4, c5, c6, _⟩ := hr
      have l0 : b < wr.heap.size := Nat.lt_of_lt_of_le hbl HB.out.size
      have HX0 := Lib.hid (BoxL.start wr 52 x (.slice vp x.list.length vc))
      have HQ := Lib.hid (lineErr_wrong hx)
      have HO := Lib.hid (lineAt_of hx)
      have q0 : (0 : Int) ≤ partN l k := by omega
      have q1 : (partN l k : Int) ≤ 60000 := by have := partN_le l k; omega
      have HW := Lib.hid (fun w hF hL => wrong_prog x vp vc w hF hL hll)
      have i0 : (0 : Int) ≤ k := by omega
      have i1 : (k : Int) < n := by omega
      have hkn := HN.out
      by_cases he : wrongL x = 0
      case neg =>
        have HE := Lib.hid he
        generalize wrongL x = e0 at *
        have g1 : (e0 == 0) = false := by simpa using he
        have g2 : (e0 != 0) = true := by simpa using he
        clear hx hll he hkn
        go_wp2_with (go_at_call 79; refine (HW.out _ ((HF.out.below HB.out).alloc _) (HI.out.below (below_one _ _))).mono ?_; rintro e w2 ⟨rfl, hb⟩; have HB1 := Lib.hid (HX0.out.next hb); obtain ⟨_, z1, d0, d1, d2, d3, d4, d5, d6⟩ := HB1.out; clear hb)
        go_ret3
        refine .inl ⟨k, e0, ?_, rfl, bt HB.out HB1.out.b⟩
        have h1 : lineErr l k = e0 := by rw [HQ.out, if_neg HE.out]
        rw [← HN.out, HP.out, firstErr_hit hlt (by rw [h1]; exact HE.out), h1]
      by_cases ho : x.op = 0
      case neg =>
        have HE := Lib.hid he
        have HO2 := Lib.hid ho
        rw [he] at HW
        have g1 : (x.op == 0) = false := by simpa using ho
        have g2 : (x.op != 0) = true := by simpa using ho
        clear hx hll he hkn ho
        go_wp2_with (go_at_call 79; refine (HW.out _ ((HF.out.below HB.out).alloc _) (HI.out.below (below_one _ _))).mono ?_; rintro e w2 ⟨rfl, hb⟩; have HB1 := Lib.hid (HX0.out.next hb); obtain ⟨_, z1, d0, d1, d2, d3, d4, d5, d6⟩ := HB1.out; clear hb)
        go_roundw
        case rel =>
          refine ⟨k + 1, by omega, ?_, by go_num, Lib.hid ?_, Lib.hid ?_, Nat.lt_trans hsz z1, Lib.hid (bt HB.out HB1.out.b)⟩
          · rw [partN_one (by rw [HO.out]; exact HO2.out)]; go_num
          · rw [HP.out, firstErr_step hlt (by rw [HQ.out, if_pos HE.out, if_neg (fun h => HO2.out h.1)])]
          · have hm := (HM.out.below HB1.out.b).mono (Nat.le_succ k)
            have e2 : mapD l (k + 1) = mapD l k := by unfold mapD; rw [if_neg (by rw [HO.out]; exact HO2.out)]; cases k <;> rfl
            rw [MapAt, e2]; exact hm
        case measure => simp [intOf]; omega
      have hlab := wrong_label he ho
      obtain ⟨sb, hsb⟩ : ∃ sb, (standsAt l x.label k).isSome = sb := ⟨_, rfl⟩
      have HT := Lib.hid (fun w1 hM => hsb ▸ stands_prog w.heap.size k l k x.label hlab w1 hM)
      have HK := Lib.hid (key_of hlab)
      have HSB := Lib.hid hsb
      have HE := Lib.hid he
      have HO2 := Lib.hid ho
      rw [he] at HW
      have g1 : (x.op == 0) = true := by simpa using ho
      have g2 : (x.op != 0) = false := by simpa using ho
      clear hx hll he hkn ho hsb hlab
      cases sb
      · go_wp2_with (first | (go_at_call 79; refine (HW.out _ ((HF.out.below HB.out).alloc _) (HI.out.below (below_one _ _))).mono ?_; rintro e w2 ⟨rfl, hb⟩; have HB1 := Lib.hid (HX0.out.next hb); obtain ⟨_, z1, d0, d1, d2, d3, d4, d5, d6⟩ := HB1.out; clear hb) | (go_at_call 80; refine (HT.out _ (HM.out.below HB1.out.b)).mono ?_; rintro e w3 ⟨rfl, hb⟩; have HB2 := Lib.hid (HB1.out.next hb); obtain ⟨_, z2, e0, e1, e2, e3, e4, e5, e6⟩ := HB2.out; clear hb) | (at_mapUpdate; refine wpList_mapUpdate_own _ rfl _ _ _ 84 rfl 3 3 law Tryz.underlying84 _ w.heap.size k _ rfl (HM.out.below HB2.out.b) (by unfold maxLen; omega) _ _ _ rfl rfl HK.out _ [] (plainElem_int Tryz.underlying3 (WalkArith.wf_i64 (by omega))) ?_; intro w4 hown1 hgrow1; have HG := Lib.hid hgrow1; have HOW := Lib.hid hown1; clear hgrow1 hown1))
        go_roundw
        case rel =>
          have hgs := HG.out.size
          refine ⟨k + 1, by omega, ?_, by go_num, Lib.hid ?_, Lib.hid ?_, by omega, Lib.hid (Below.grown (bt HB.out HB2.out.b) HG.out (by omega) (fun q hq => by injection hq with hq; omega))⟩
          · rw [partN_same (by rw [HO.out]; exact HO2.out)]
          · rw [HP.out, firstErr_step hlt (by rw [HQ.out, if_pos HE.out, if_neg (by rw [HSB.out]; simp)])]
          · have e2 : mapD l (k + 1) = (mapD l k).put (lit x.label) (.lit (lit (partN l k))) := by
              show (if (lineAt l k).op = 0 then _ else _) = _
              rw [if_pos (by rw [HO.out]; exact HO2.out), HO.out]
            rw [MapAt, e2]; exact HOW.out
        case measure => simp [intOf]; omega
      · go_wp2_with (first | (go_at_call 79; refine (HW.out _ ((HF.out.below HB.out).alloc _) (HI.out.below (below_one _ _))).mono ?_; rintro e w2 ⟨rfl, hb⟩; have HB1 := Lib.hid (HX0.out.next hb); obtain ⟨_, z1, d0, d1, d2, d3, d4, d5, d6⟩ := HB1.out; clear hb) | (go_at_call 80; refine (HT.out _ (HM.out.below HB1.out.b)).mono ?_; rintro e w3 ⟨rfl, hb⟩; have HB2 := Lib.hid (HB1.out.next hb); obtain ⟨_, z2, e0, e1, e2, e3, e4, e5, e6⟩ := HB2.out; clear hb))
        go_ret3
        refine .inl ⟨k, 172, ?_, rfl, bt HB.out HB2.out.b⟩
        have h1 : lineErr l k = 172 := by rw [HQ.out, if_pos HE.out, if_pos ⟨HO2.out, HSB.out⟩]
        rw [← HN.out, HP.out, firstErr_hit hlt (by rw [h1]; decide), h1]
    · have hkn : k = n := by omega
      subst hkn
      have i1 : ¬ ((k : Int) < (k : Int)) := by omega
      go_wp2
      go_ret3
      refine .inr ⟨?_, w.heap.size, rfl, ?_, Nat.le_refl _, HB.out⟩
      · rw [← HN.out, HP.out, Nat.sub_self]; rfl
      · rw [← HN.out]; exact HM.out.mono h6
end Go.Proofs.YthojmbljlehpbaaGreatDoor.Relax
namespace Go.Proofs.YthojmbljlehpbaaGreatDoor.Relax
open Go.RowKit Go.Proofs.YthojmbljlehpbaaGreatDoor.Enc Go.Proofs.YthojmbljlehpbaaGreatDoor.Graph Go.Maps

/-- Nothing is wrong with a line. -/
def Fine (x : PL) : Prop := wrongL x = 0
theorem fine_may {x : PL} (h : Fine x) : mayL x = true ∧ 0 ≤ x.op ∧ x.op ≤ 48 := by
  unfold Fine wrongL at h
  by_cases h1 : x.op < 0 ∨ 48 < x.op
  · rw [if_pos h1] at h; cases h
  · rw [if_neg h1] at h
    cases hm : mayL x with
    | true => exact ⟨rfl, by omega, by omega⟩
    | false => rw [hm] at h; cases h
theorem fine_goals {x : PL} (h : Fine x) : ∀ k ∈ goalsP x, 0 ≤ k ∧ k ≤ 100000 := by
  obtain ⟨hm, h1, h2⟩ := fine_may h
  rw [may_parts x h1 h2] at hm
  simp only [Bool.and_eq_true] at hm
  obtain ⟨⟨⟨_, hf⟩, ht⟩, _⟩ := hm
  intro k hk
  unfold goalsP at hk
  split at hk
  · rename_i hl
    unfold labelFitsB at hf
    rw [if_pos (.inr hl)] at hf
    have : k = x.label := by simpa using hk
    subst this
    unfold labelB at hf
    simpa using hf
  · unfold listFitsB at ht
    split at ht
    · simp only [Bool.and_eq_true, List.all_eq_true] at ht
      have := ht.2 k hk
      unfold labelB at this
      simpa using this
    · have : x.list = [] := by simpa using ht
      rw [this] at hk; cases hk
theorem goals_len {x : PL} (h : Fine x) : (goalsP x).length ≤ 400 := by
  obtain ⟨hm, h1, h2⟩ := fine_may h
  rw [may_parts x h1 h2] at hm
  simp only [Bool.and_eq_true] at hm
  obtain ⟨⟨_, ht⟩, _⟩ := hm
  unfold goalsP
  split
  · simp
  · unfold listFitsB at ht
    split at ht
    · simp only [Bool.and_eq_true, decide_eq_true_eq] at ht
      omega
    · have : x.list = [] := by simpa using ht
      rw [this]; simp
theorem labErr_goals {l : List PL} {k : Nat} {x : PL} (hx : l[k]? = some x) (h : Fine x) : labErr l k = if (goalsP x).all (standsB l) then 0 else 173 := by
  unfold labErr goalsP
  rw [lineAt_of hx, lead_goes]
  cases hl : leadB x.op with
  | true =>
    have : x.list = [] := (fields_go (fine_may h).1 (by rw [lead_goes]; exact hl)).2.2.2.2
    rw [this]
    generalize hq : standsB l x.label = q
    cases q <;> simp [hq]
  | false =>
    have e : x.list.any (fun k => !standsB l k) = !x.list.all (standsB l) := by rw [List.all_eq_not_any_not]; simp
    show (if (false && !standsB l x.label) || x.list.any (fun k => !standsB l k) then (173 : Int) else 0) = if (if false = true then [x.label] else x.list).all (standsB l) then 0 else 173
    rw [e, if_neg (by simp : ¬ (false = true)), Bool.false_and, Bool.false_or]
    generalize x.list.all (standsB l) = q
    cases q <;> rfl
def AstrayPost (l : List PL) (w : World) (e : Ending) (w' : World) : Prop :=
  (∃ (i : Nat) (er : Int), firstErr (labErr l) 0 l.length = some (i, er) ∧ er = 173 ∧ e = .returned (.int .i64 i) ∧ Below w.heap.size w w') ∨
  (firstErr (labErr l) 0 l.length = none ∧ e = .returned (.int .i64 (-1)) ∧ Below w.heap.size w w')
set_option maxHeartbeats 8000000 in
set_option maxRecDepth 100000 in
theorem astray_prog (l : List PL) (p : Option Addr) (c : Nat) (bm : Nat) (w : World) (hl : LinesR w (.slice p l.length c) l) (h6 : l.length ≤ 60000) (hM : MapAt w bm 60000 l l.length) (hf : ∀ x ∈ l, Fine x) :
    Calls Tryz.prog 48 #[.slice p l.length c, .map (some bm)] w (AstrayPost l w) := by
  obtain ⟨n, hn⟩ : ∃ n, n = l.length := ⟨_, rfl⟩
  rw [← hn] at h6 ⊢
  have HL := Lib.hid (hn ▸ hl : LinesR w (.slice p n c) l)
  have HN := Lib.hid hn
  have HM := Lib.hid (hn ▸ hM : MapAt w bm 60000 l n)
  have HF := Lib.hid hf
  clear hl hn hM hf
  have m0 : (n : Int) ≤ 60000 := by omega
  go_enter Tryz.func48, Tryz.ntmps48
  go_wp2; go_step3; go_wp2; go_step3; go_wp2
  go_loopw [5, 12] (fun f i wr => f = .int .i64 (-1) ∧ ∃ k : Nat, k ≤ n ∧ i = .int .i64 k ∧ Hid (firstErr (labErr l) 0 n = firstErr (labErr l) k (n - k)) ∧ Hid (Below w.heap.size w wr)) (fun _ i _ => n - (intOf i).toNat)
  case atStart => exact ⟨rfl, 0, Nat.zero_le _, rfl, Lib.hid rfl, Lib.hid (Below.refl _ _)⟩
  case round =>
    obtain ⟨rfl, k, hk, rfl, HP, HB⟩ := hrel
    by_cases hlt : k < n
    · obtain ⟨b, o, x, vl, rfl, hx, hbl, hr, hc1, hc2⟩ := lines_pt HL.out (k := k) (by have := HN.out; omega)
      replace hr := hr.below hbl HB.out
      obtain ⟨vp, vc, rfl⟩ := hr.list.form
      have HI := Lib.hid hr.list
      have hfx := HF.out x (List.mem_of_getElem? hx)
      obtain ⟨c0, c1, c2, c3, c4, c5, c6, _⟩ := hr
      have l0 : b < wr.heap.size := Nat.lt_of_lt_of_le hbl HB.out.size
      have HX0 := Lib.hid (BoxL.start wr 52 x (.slice vp x.list.length vc))
      have HQ := Lib.hid (labErr_goals hx hfx)
      have HG := Lib.hid (fun w hL => goals_prog x vp vc w hL)
      have HGL := Lib.hid (fine_goals hfx)
      have hgl := goals_len hfx
      obtain ⟨G, hG⟩ : ∃ G, goalsP x = G := ⟨_, rfl⟩
      obtain ⟨m, hm⟩ : ∃ m, G.length = m := ⟨_, rfl⟩
      unfold GoalsPost at HG
      rw [hG] at HQ HG HGL hgl
      rw [hm] at HG hgl
      have HMM := Lib.hid hm
      have i0 : (0 : Int) ≤ k := by omega
      have i1 : (k : Int) < n := by omega
      have i2 : (m : Int) ≤ 400 := by omega
      clear hx hfx hG hm
      go_upto_region 6 with (go_at_call 81; refine (HG.out _ (HI.out.below (below_one _ _))).mono ?_; rintro e w2 ⟨gp, gc, rfl, hgi, hb⟩; have HGI := Lib.hid hgi; have HB2 := Lib.hid (bt HB.out (HX0.out.next hb).b); clear hgi hb)
      have hsz2 : w.heap.size ≤ w2.heap.size := HB2.out.size
      go_wp2
      go_loopw [5, 20] (fun f j wr2 => f = .int .i64 (-1) ∧ ∃ a : Nat, a ≤ m ∧ j = .int .i64 a ∧ Hid ((G.take a).all (standsB l) = true) ∧ Hid (Below w2.heap.size w2 wr2)) (fun _ j _ => m - (intOf j).toNat)
      case atStart => exact ⟨rfl, 0, Nat.zero_le _, rfl, Lib.hid rfl, Lib.hid (Below.refl _ _)⟩
      case round =>
        obtain ⟨rfl, a, ha, rfl, HA, HB3⟩ := hrel
        by_cases hla : a < m
        · obtain ⟨b1, o1, g, rfl, hg, hgl1, hge, hc3, hc4⟩ := ints_pt HGI.out (k := a) (by have := HMM.out; omega)
          have hg1 := (HB3.out.cell (p := ⟨b1, o1 + a, none⟩) hgl1).trans hge
          have l1 : b1 < wr.heap.size := Nat.lt_of_lt_of_le hgl1 HB3.out.size
          have hlab := HGL.out g (List.mem_of_getElem? hg)
          have HGA := Lib.hid hg
          obtain ⟨sb, hsb⟩ : ∃ sb, standsB l g = sb := ⟨_, rfl⟩
          have hsb' : (standsAt l g n).isSome = sb := by rw [HN.out]; exact hsb
          have HT := Lib.hid (fun w1 hM => hsb' ▸ stands_prog bm 60000 l n g hlab w1 hM)
          have HSB := Lib.hid hsb
          have i3 : (0 : Int) ≤ a := by omega
          have i4 : (a : Int) < m := by omega
          clear hg hge hsb hsb' hlab
          cases sb
          · go_wp2_with (go_at_call 80; refine (HT.out _ ((HM.out.below HB2.out).below HB3.out)).mono ?_; rintro e w3 ⟨rfl, hb⟩; have HB4 := Lib.hid hb; clear hb)
            try rw [Exit.noGoto_ret]
            go_ret
            refine .inl ⟨k, 173, ?_, rfl, rfl, bt HB2.out (bt HB3.out HB4.out)⟩
            have h1 : labErr l k = 173 := by
              rw [HQ.out, if_neg]
              intro h
              have := List.all_eq_true.1 h g (List.mem_of_getElem? HGA.out)
              rw [HSB.out] at this; cases this
            rw [← HN.out, HP.out, firstErr_hit hlt (by rw [h1]; decide), h1]
          · go_wp2_with (go_at_call 80; refine (HT.out _ ((HM.out.below HB2.out).below HB3.out)).mono ?_; rintro e w3 ⟨rfl, hb⟩; have HB4 := Lib.hid hb; clear hb)
            go_roundw
            case rel => exact ⟨rfl, a + 1, by omega, by go_num, Lib.hid (all_take HA.out HGA.out HSB.out), Lib.hid (bt HB3.out HB4.out)⟩
            case measure => simp [intOf]; omega
        · have ham : a = m := by omega
          subst ham
          have i3 : ¬ ((a : Int) < (a : Int)) := by omega
          go_wp2
          go_roundw
          case rel =>
            refine ⟨rfl, k + 1, by omega, by go_num, Lib.hid ?_, Lib.hid (bt HB2.out HB3.out)⟩
            have h2 := HA.out
            rw [← HMM.out, List.take_length] at h2
            rw [HP.out, firstErr_step hlt (by rw [HQ.out, if_pos h2])]
          case measure => simp [intOf]; omega
    · have hkn : k = n := by omega
      subst hkn
      have i1 : ¬ ((k : Int) < (k : Int)) := by omega
      go_wp2
      try rw [Exit.noGoto_ret]
      go_ret
      refine .inr ⟨?_, rfl, HB.out⟩
      rw [← HN.out, HP.out, Nat.sub_self]; rfl
end Go.Proofs.YthojmbljlehpbaaGreatDoor.Relax
namespace Go.Proofs.YthojmbljlehpbaaGreatDoor.Relax
open Go.RowKit Go.Proofs.YthojmbljlehpbaaGreatDoor.Enc Go.Proofs.YthojmbljlehpbaaGreatDoor.Graph

theorem run_append_nil0 {P : Program} (w : World) (t e ty : TypeId) (size : Nat) (hu : P.underlying t = some (.slice e)) (hs : (P.info? e).map (·.size) = some size) (c : Nat) (p : Option Addr) :
    (Builtin.append_ #[t, t] ty #[.slice none 0 0, .slice p 0 c]).run P w = .ok (.slice none 0 0) w := by
  cases hq : P.info? e with
  | none => simp [hq] at hs
  | some i =>
    have hl : ∀ (x : Addr), (loadCells x 0).run P w = .ok #[] w := fun x => by simpa using run_loadCells_list (P := P) w x [] (by simp)
    cases p <;> simp [Builtin.append_, run_underlying hu, Builtin.lenOf, Builtin.firstCells, sizeOf, typeInfo, hq, hl]
theorem wpList_append_nil0 {P : Program} {w : World} {ops : Array Oper} {rest : List Oper} {o : Oper} {a : Act} {Q : Exit → Act → World → Prop} (hgd : o.guard = none) (d s : Operand) (t : TypeId)
    (ho : o.op = .call { callee := .builtin .append, args := #[d, s], argTypes := #[t, t] }) (e : TypeId) (size : Nat) (hu : P.underlying t = some (.slice e)) (hs : (P.info? e).map (·.size) = some size)
    (c : Nat) (p : Option Addr) (hd : a.eval d = .slice none 0 0) (hx : a.eval s = .slice p 0 c)
    (h : wpList P ops Q rest (a.put o.dst (.slice none 0 0)) w) : wpList P ops Q (o :: rest) a w := by
  refine wpList_plain hgd fun K hK => ?_
  have hrun := run_append_nil0 (P := P) w t e o.type size hu hs c p
  unfold Oper.wp
  simp [execOp, ho, resolve, invoke, builtin, hd, hx, hrun, Result.andThen]
  exact hK _ _ h
theorem info_lineS : (Tryz.prog.info? 52).map (fun i => (i.zero, i.size, i.bytes)) = some (some (.agg #[.int .i64 0, .int .i64 0, .int .i64 0, .int .i64 0, .int .u32 0, .int .i64 0, .slice none 0 0]), 7, 72) := by kernel_rfl
theorem zline_size : (Value.agg #[.int .i64 0, .int .i64 0, .int .i64 0, .int .i64 0, .int .u32 0, .int .i64 0, .slice none 0 0]).cells.size = 7 := by kernel_rfl
/-- Lines appended to a row of one's own. -/
theorem wpList_append_lines {w : World} {ops : Array Oper} {rest : List Oper} {o : Oper} {a : Act} {Q : Exit → Act → World → Prop} (hgd : o.guard = none) (s x : Operand)
    (ho : o.op = .call { callee := .builtin .append, args := #[s, x], argTypes := #[22, 22] }) (B : Nat) (v : Value) (n : Nat) (ps qs : List (PL × Value)) (hs : a.eval s = v)
    (hown : w.ownsRow B 52 7 v n (flatL ps)) (ad : Addr) (m c : Nat) (hx : a.eval x = .slice (some ad) m c) (hm : m = qs.length)
    (hnews : ∀ j u, (flatL qs)[j]? = some u → w.cell? (ad.add j) = some u) (h1 : ∀ u ∈ flatL qs, u.oneCell' = true) (h64 : (n + m) * 72 ≤ 140737488355328) (hB : B ≤ w.heap.size)
    (h : ∀ v' w', w'.ownsRow B 52 7 v' (n + m) (flatL (ps ++ qs)) → Below B w w' → w.grownBy w' v.ownBlock → wpList Tryz.prog ops Q rest (a.put o.dst v') w') : wpList Tryz.prog ops Q (o :: rest) a w := by
  obtain ⟨i0, HI, hz0, hz1, hz2⟩ := info_parts info_lineS
  refine wpList_append_own_wide w hgd s x 22 ho B 52 i0 _ 7 72 Tryz.underlying22 HI hz0 hz1 hz2 zline_size (by omega) v n (flatL ps) hs hown ad m c (flatL qs) hx (by rw [flat_len, hm]) hnews h1 (by unfold maxLen; omega) (by omega) hB ?_
  intro v' w' h2 h3 _
  exact h v' w' (by rw [flat_app]; exact h2) (Below.grown (Below.refl _ _) h3 hB (fun k hk => (hown.lt k hk).1)) h3
theorem info_intS : (Tryz.prog.info? 3).map (fun i => (i.zero, i.size, i.bytes)) = some (some (.int .i64 0), 1, 8) := by kernel_rfl
/-- A list of numbers copied by append, to nil. -/
theorem wpList_copy_ints {w : World} {ops : Array Oper} {rest : List Oper} {o : Oper} {a : Act} {Q : Exit → Act → World → Prop} (hgd : o.guard = none) (s x : Operand)
    (ho : o.op = .call { callee := .builtin .append, args := #[s, x], argTypes := #[35, 35] }) (l : List Int) (p : Option Addr) (c : Nat) (hs : a.eval s = .slice none 0 0) (hx : a.eval x = .slice p l.length c)
    (hl : IntsR w (.slice p l.length c) l) (h64 : l.length * 8 ≤ 140737488355328)
    (h : ∀ v' w', IntsR w' v' l → Below w.heap.size w w' → (∀ b o s n c, v' = .slice (some ⟨b, o, s⟩) n c → w.heap.size ≤ b) → wpList Tryz.prog ops Q rest (a.put o.dst v') w') : wpList Tryz.prog ops Q (o :: rest) a w := by
  rcases Nat.eq_zero_or_pos l.length with h0 | h0
  · refine wpList_append_nil0 hgd s x 35 ho 3 1 Tryz.underlying35 (by kernel_rfl) c p hs (by rw [hx, h0]) ?_
    exact h _ _ (.inl ⟨h0, none, 0, rfl⟩) (Below.refl _ _) (fun b o s n c e => by injection e with e; cases e)
  · obtain ⟨i0, HI, hz0, hz1, hz2⟩ := info_parts info_intS
    obtain ⟨g, o1, c', h1, h2, h3, h4⟩ := SlR.form2 hl h0
    injection h1 with h1 _ h5
    subst h1 h5
    refine wpList_append_own_wide w hgd s x 35 ho w.heap.size 3 i0 _ 1 8 Tryz.underlying35 HI hz0 hz1 hz2 rfl (by omega) _ 0 [] hs (World.ownsRow_nil _ _ _ _) ⟨g, o1, none⟩ l.length c (l.map iv) hx (by simp) (fun j u hu => ?_) (fun u hu => ?_) (by unfold maxLen; omega) (by omega) (Nat.le_refl _) ?_
    · rw [Go.WideShapes.add_plain]
      rw [List.getElem?_map] at hu
      obtain ⟨y, hy, rfl⟩ := Option.map_eq_some_iff.1 hu
      have hj : j < l.length := (List.getElem?_eq_some_iff.1 hy).1
      have := h4 j hj y hy
      rw [Nat.mul_one] at this
      exact this
    · obtain ⟨y, _, rfl⟩ := List.mem_map.1 hu
      rfl
    · intro v' w' h2 h3 _
      rw [Nat.zero_add, List.nil_append] at h2
      refine h v' w' (ints_of_own h2) (Below.grown (Below.refl _ _) h3 (Nat.le_refl _) (fun k hk => by cases hk)) (fun b o s n c e => ?_)
      subst e
      obtain ⟨_, ⟨e, _⟩ | ⟨g2, cap, cur, e, h6, _⟩⟩ := h2
      · injection e with e; cases e
      · injection e with e _ _
        injection e with e
        injection e with e _ _
        subst e; exact h6
end Go.Proofs.YthojmbljlehpbaaGreatDoor.Relax
namespace Go.Proofs.YthojmbljlehpbaaGreatDoor.Relax
open Go.RowKit Go.Proofs.YthojmbljlehpbaaGreatDoor.Enc Go.Proofs.YthojmbljlehpbaaGreatDoor.Graph

def partCs (p : PP) (r : Int) : List Value := [iv p.line, iv p.short, iv p.more, iv p.to, iv r]
def flatN (ps : List PP) (r : Nat → Int) : Nat → List Value
  | 0 => []
  | n + 1 => flatN ps r n ++ partCs (partAt ps n) (r n)
def flatP (ps : List PP) (r : Nat → Int) : List Value := flatN ps r ps.length
theorem flatN_len (ps : List PP) (r : Nat → Int) : ∀ n, (flatN ps r n).length = n * 5
  | 0 => rfl
  | n + 1 => by
    show (flatN ps r n ++ _).length = _
    rw [List.length_append, flatN_len ps r n]
    show n * 5 + 5 = (n + 1) * 5
    omega
theorem flatN_get (ps : List PP) (r : Nat → Int) (k j : Nat) (hj : j < 5) : ∀ n, k < n → (flatN ps r n)[k * 5 + j]? = (partCs (partAt ps k) (r k))[j]?
  | 0, h => absurd h (by omega)
  | n + 1, h => by
    show (flatN ps r n ++ _)[k * 5 + j]? = _
    rcases Nat.lt_or_ge k n with h1 | h1
    · rw [List.getElem?_append_left (by rw [flatN_len]; omega)]
      exact flatN_get ps r k j hj n h1
    · obtain rfl : k = n := by omega
      rw [List.getElem?_append_right (by rw [flatN_len]; omega), flatN_len]
      congr 1; omega
theorem flatN_ext {ps qs : List PP} {r s : Nat → Int} : ∀ n, (∀ k, k < n → partAt ps k = partAt qs k ∧ r k = s k) → flatN ps r n = flatN qs s n
  | 0, _ => rfl
  | n + 1, h => by
    show flatN ps r n ++ _ = flatN qs s n ++ _
    rw [flatN_ext n (fun k hk => h k (by omega)), (h n (by omega)).1, (h n (by omega)).2]
theorem partAt_app (ps : List PP) (p : PP) {k : Nat} (h : k < ps.length) : partAt (ps ++ [p]) k = partAt ps k := by
  unfold partAt
  rw [List.getD_eq_getElem?_getD, List.getD_eq_getElem?_getD, List.getElem?_append_left h]
theorem partAt_new (ps : List PP) (p : PP) : partAt (ps ++ [p]) ps.length = p := by
  unfold partAt
  rw [List.getD_eq_getElem?_getD, List.getElem?_append_right (Nat.le_refl _)]; simp
theorem flatP_app (ps : List PP) (p : PP) (r : Nat → Int) : flatP (ps ++ [p]) r = flatP ps r ++ partCs p (r ps.length) := by
  unfold flatP
  rw [List.length_append]
  show flatN (ps ++ [p]) r ps.length ++ partCs (partAt (ps ++ [p]) ps.length) _ = _
  rw [partAt_new, flatN_ext (qs := ps) (s := r) _ (fun k hk => ⟨partAt_app ps p hk, rfl⟩)]
theorem flatP_len (ps : List PP) (r : Nat → Int) : (flatP ps r).length = ps.length * 5 := flatN_len ps r _
theorem flatN_set (ps : List PP) (r : Nat → Int) (i : Nat) (v : Int) : ∀ n, (flatN ps r n).set (i * 5 + 4) (iv v) = flatN ps (turnR r i v) n
  | 0 => rfl
  | n + 1 => by
    show (flatN ps r n ++ partCs (partAt ps n) (r n)).set (i * 5 + 4) (iv v) = flatN ps (turnR r i v) n ++ partCs (partAt ps n) (turnR r i v n)
    rw [← flatN_set ps r i v n]
    rcases Nat.lt_or_ge i n with h1 | h1
    · rw [List.set_append_left _ _ (by rw [flatN_len]; omega), turnR_other _ _ (by omega : n ≠ i)]
    · rw [List.set_append_right _ _ (by rw [flatN_len]; omega), flatN_len]
      have e1 : (flatN ps r n).set (i * 5 + 4) (iv v) = flatN ps r n := List.set_eq_of_length_le (by rw [flatN_len]; omega)
      rw [e1]
      rcases Nat.eq_or_lt_of_le h1 with h2 | h2
      · subst h2
        rw [turnR_same, show n * 5 + 4 - n * 5 = 4 by omega]; rfl
      · rw [turnR_other _ _ (by omega : n ≠ i)]
        rw [List.set_eq_of_length_le (by show 5 ≤ _; omega)]
theorem flatP_set (ps : List PP) (r : Nat → Int) (i : Nat) (v : Int) : (flatP ps r).set (i * 5 + 4) (iv v) = flatP ps (turnR r i v) := flatN_set ps r i v _
/-- The row of parts, in a block of one's own. -/
def PartsR (w : World) (B : Nat) (v : Value) (ps : List PP) (r : Nat → Int) : Prop := w.ownsRow B 95 5 v ps.length (flatP ps r)
theorem info_part : (Tryz.prog.info? 95).map (fun i => (i.zero, i.size, i.bytes)) = some (some (.agg #[.int .i64 0, .int .i64 0, .int .i64 0, .int .i64 0, .int .i64 0]), 5, 40) := by kernel_rfl
theorem zpart_size : (Value.agg #[.int .i64 0, .int .i64 0, .int .i64 0, .int .i64 0, .int .i64 0]).cells.size = 5 := by kernel_rfl
theorem PartsR.form {w : World} {B : Nat} {v : Value} {ps : List PP} {r : Nat → Int} (h : PartsR w B v ps r) : ∃ p c, v = .slice p ps.length c := by
  obtain ⟨_, ⟨rfl, h⟩ | ⟨g, cap, cur, rfl, _⟩⟩ := h
  · exact ⟨none, 0, by rw [h]⟩
  · exact ⟨_, _, rfl⟩
/-- A part of the row. -/
theorem PartsR.at_ {w : World} {B n c : Nat} {p : Option Addr} {ps : List PP} {r : Nat → Int} (h : PartsR w B (.slice p n c) ps r) {k : Nat} (hk : k < ps.length) :
    ∃ g, p = some ⟨g, 0, none⟩ ∧ B ≤ g ∧ g < w.heap.size ∧ ps.length ≤ c ∧ c ≤ 9223372036854775807 ∧
      w.cell? ⟨g, k * 5, none⟩ = some (.int .i64 (partAt ps k).line) ∧ w.cell? ⟨g, k * 5 + 1, none⟩ = some (.int .i64 (partAt ps k).short) ∧ w.cell? ⟨g, k * 5 + 2, none⟩ = some (.int .i64 (partAt ps k).more) ∧
      w.cell? ⟨g, k * 5 + 3, none⟩ = some (.int .i64 (partAt ps k).to) ∧ w.cell? ⟨g, k * 5 + 4, none⟩ = some (.int .i64 (r k)) ∧ w.frozen? ⟨g, k * 5 + 4, none⟩ = false := by
  obtain ⟨g, cap, h1, h2, h3, h4, h5, h6⟩ := row_at h (by omega)
  injection h1 with h1 h7 h8
  subst h1 h8
  have hc : ∀ j u, j < 5 → (partCs (partAt ps k) (r k))[j]? = some u → w.cell? ⟨g, k * 5 + j, none⟩ = some u := fun j u hj hu => h6 _ _ (by rw [← hu]; exact flatN_get ps r k j hj _ hk)
  subst h7
  exact ⟨g, rfl, h2, h5, h3, h4, hc 0 _ (by omega) rfl, hc 1 _ (by omega) rfl, hc 2 _ (by omega) rfl, hc 3 _ (by omega) rfl, hc 4 _ (by omega) rfl, World.ownsRow.frozenAt h _⟩
/-- A reach stored. -/
theorem PartsR.stored {w : World} {B g n c : Nat} {ps : List PP} {r : Nat → Int} (h : PartsR w B (.slice (some ⟨g, 0, none⟩) n c) ps r) (hn : n = ps.length) (k : Nat) (v : Int) :
    PartsR (w.setCell ⟨g, k * 5 + 4, none⟩ (.int .i64 v)) B (.slice (some ⟨g, 0, none⟩) n c) ps (turnR r k v) := by
  subst hn
  have := (World.ownsRow.stored h (k * 5 + 4) (.int .i64 v)).1
  unfold PartsR
  rw [← flatP_set]; exact this
/-- A part appended. -/
theorem wpList_append_part {w : World} {ops : Array Oper} {rest : List Oper} {o : Oper} {a : Act} {Q : Exit → Act → World → Prop} (hgd : o.guard = none) (s x : Operand)
    (ho : o.op = .call { callee := .builtin .append, args := #[s, x], argTypes := #[88, 88] }) (B : Nat) (v : Value) (ps : List PP) (q : PP) (hs : a.eval s = v)
    (hown : PartsR w B v ps (fun _ => 0)) (ad : Addr) (c : Nat) (hx : a.eval x = .slice (some ad) 1 c)
    (hnews : ∀ j u, (partCs q 0)[j]? = some u → w.cell? (ad.add j) = some u) (h64 : ps.length ≤ 1000000) (hB : B ≤ w.heap.size)
    (h : ∀ v' w', PartsR w' B v' (ps ++ [q]) (fun _ => 0) → Below B w w' → w.grownBy w' v.ownBlock → wpList Tryz.prog ops Q rest (a.put o.dst v') w') : wpList Tryz.prog ops Q (o :: rest) a w := by
  obtain ⟨i0, HI, hz0, hz1, hz2⟩ := info_parts info_part
  refine wpList_append_own_wide w hgd s x 88 ho B 95 i0 _ 5 40 Tryz.underlying88 HI hz0 hz1 hz2 zpart_size (by omega) v ps.length (flatP ps (fun _ => 0)) hs hown ad 1 c (partCs q 0) hx rfl hnews (fun u hu => ?_) (by unfold maxLen; omega) (by omega) hB ?_
  · unfold partCs iv at hu
    simp only [List.mem_cons, List.not_mem_nil, or_false] at hu
    rcases hu with rfl | rfl | rfl | rfl | rfl <;> rfl
  · intro v' w' h2 h3 _
    refine h v' w' ?_ (Below.grown (Below.refl _ _) h3 hB (fun k hk => (hown.lt k hk).1)) h3
    unfold PartsR
    rw [flatP_app, List.length_append]; exact h2
end Go.Proofs.YthojmbljlehpbaaGreatDoor.Relax
namespace Go.Proofs.YthojmbljlehpbaaGreatDoor.Relax
open Go.RowKit Go.Proofs.YthojmbljlehpbaaGreatDoor.Enc Go.Proofs.YthojmbljlehpbaaGreatDoor.Graph Go.Maps

theorem parts_step {l : List PL} {k : Nat} (ho : (lineAt l k).op ≠ 0) : partsN l (k + 1) = partsN l k ++ [partP l k] := by
  show partsN l k ++ (if (lineAt l k).op = 0 then [] else [partP l k]) = _
  rw [if_neg ho]
theorem parts_same {l : List PL} {k : Nat} (ho : (lineAt l k).op = 0) : partsN l (k + 1) = partsN l k := by
  show partsN l k ++ (if (lineAt l k).op = 0 then [] else [partP l k]) = _
  rw [if_pos ho, List.append_nil]
set_option maxRecDepth 100000 in
theorem look_run {w : World} {b m : Nat} {l : List PL} (hM : MapAt w b m l l.length) {lab : Int} (hl : 0 ≤ lab ∧ lab ≤ 100000) :
    (Instr.lookup 84 (.map (some b)) (.int .i64 lab) false).run Tryz.prog w = .ok (.int .i64 (toP l lab)) w := by
  obtain ⟨c, h1, h2, _⟩ := World.ownsMap.lookup_int hM law Tryz.underlying84 Tryz.underlying3 (zeroE _) (key_of hl)
  have h3 : DataW.lit (lit (match standsAt l lab l.length with | none => 0 | some t => (partN l t : Int))) = DataW.lit (H := Unit) (lit c) := (mapD_at l lab l.length).symm.trans h2
  injection h3 with h3
  injection h3 with _ h3
  rw [h1, ← h3]
  unfold toP
  cases standsAt l lab l.length <;> rfl
theorem part_news {w : World} {b : Nat} {q : PP} {r : Int} (h0 : w.cell? ⟨b, 0, none⟩ = some (.int .i64 q.line)) (h1 : w.cell? ⟨b, 1, none⟩ = some (.int .i64 q.short)) (h2 : w.cell? ⟨b, 2, none⟩ = some (.int .i64 q.more))
    (h3 : w.cell? ⟨b, 3, none⟩ = some (.int .i64 q.to)) (h4 : w.cell? ⟨b, 4, none⟩ = some (.int .i64 r)) : ∀ j u, (partCs q r)[j]? = some u → w.cell? ((⟨b, 0, none⟩ : Addr).add j) = some u := fun j u hu => by
  rw [Go.WideShapes.add_plain, Nat.zero_add]
  match j, hu with
  | 0, hu => injection hu with hu; subst hu; exact h0
  | 1, hu => injection hu with hu; subst hu; exact h1
  | 2, hu => injection hu with hu; subst hu; exact h2
  | 3, hu => injection hu with hu; subst hu; exact h3
  | 4, hu => injection hu with hu; subst hu; exact h4
  | j + 5, hu => simp [partCs] at hu
theorem PartsR.below {w w' : World} {B : Nat} {v : Value} {ps : List PP} {r : Nat → Int} (h : PartsR w B v ps r) (hb : Below w.heap.size w w') : PartsR w' B v ps r :=
  World.ownsRow.kept (row := none) h ⟨hb.os, hb.tape, hb.output, hb.size, fun i hi _ => hb.block i hi⟩ (by cases v.ownBlock <;> simp)
def PartsPost (l : List PL) (w : World) (e : Ending) (w' : World) : Prop := ∃ v, e = .returned v ∧ PartsR w' w.heap.size v (partsP l) (fun _ => 0) ∧ Below w.heap.size w w'
set_option maxHeartbeats 8000000 in
set_option maxRecDepth 100000 in
theorem partsOf_prog (l : List PL) (p : Option Addr) (c : Nat) (bm : Nat) (w : World) (hl : LinesR w (.slice p l.length c) l) (hs : SmL l) (h6 : l.length ≤ 60000) (hM : MapAt w bm 60000 l l.length) (hf : ∀ x ∈ l, Fine x) :
    Calls Tryz.prog 49 #[.slice p l.length c, .map (some bm)] w (PartsPost l w) := by
  obtain ⟨n, hn⟩ : ∃ n, n = l.length := ⟨_, rfl⟩
  rw [← hn] at h6 ⊢
  have HL := Lib.hid (hn ▸ hl : LinesR w (.slice p n c) l)
  have HN := Lib.hid hn
  have HM := Lib.hid hM
  have HF := Lib.hid hf
  have HS := Lib.hid hs
  clear hl hn hM hf hs
  have m0 : (n : Int) ≤ 60000 := by omega
  go_enter Tryz.func49, Tryz.ntmps49
  go_wp2
  go_loopw [5, 11] (fun v i wr => ∃ k : Nat, k ≤ n ∧ i = .int .i64 k ∧ Hid (PartsR wr w.heap.size v (partsN l k) (fun _ => 0)) ∧ Hid (Below w.heap.size w wr)) (fun _ i _ => n - (intOf i).toNat)
  case atStart => exact ⟨0, Nat.zero_le _, rfl, Lib.hid (World.ownsRow_nil _ _ _ _), Lib.hid (Below.refl _ _)⟩
  case round =>
    obtain ⟨k, hk, rfl, HP, HB⟩ := hrel
    by_cases hlt : k < n
    · obtain ⟨b, o, x, vl, rfl, hx, hbl, hr, hc1, hc2⟩ := lines_pt HL.out (k := k) (by have := HN.out; omega)
      replace hr := hr.below hbl HB.out
      obtain ⟨vp, vc, rfl⟩ := hr.list.form
      have hfx := HF.out x (List.mem_of_getElem? hx)
      have hll := HS.out.2 x (List.mem_of_getElem? hx)
      obtain ⟨c0, c1, c2, c3, c4, c5, c6, _⟩ := hr
      have l0 : b < wr.heap.size := Nat.lt_of_lt_of_le hbl HB.out.size
      have HX := Lib.hid (lineAt_of hx)
      have HFX := Lib.hid hfx
      have i0 : (0 : Int) ≤ k := by omega
      have i1 : (k : Int) < n := by omega
      clear hx hfx
      obtain ⟨op, fa, fb, imm, nn, label, list⟩ := x
      simp only at c0 c1 c2 c3 c4 c5 c6 hll
      generalize hm : list.length = m at *
      have HMM := Lib.hid hm
      have j0 : (m : Int) ≤ 100000000000000 := by omega
      clear hm
      have hpl := partN_le l k
      have hbs := HB.out.size
      by_cases h0 : op = 0
      · subst h0
        go_wp2
        go_roundw
        case rel => exact ⟨k + 1, by omega, by go_num, Lib.hid (by rw [parts_same (by rw [HX.out])]; exact HP.out.alloc _), Lib.hid (bt HB.out (below_one _ _))⟩
        case measure => simp [intOf]; omega
      have HBR := Lib.hid (fun w => branches_prog op w)
      have HO := Lib.hid (show (lineAt l k).op ≠ 0 by rw [HX.out]; exact h0)
      by_cases h40 : op = 40
      · subst h40
        have hlab : 0 ≤ label ∧ label ≤ 100000 := fine_goals HFX.out label (by unfold goalsP; rw [if_pos (by rfl)]; simp)
        have hr0 := look_run ((HM.out.below HB.out).below (((below_one wr (.cells #[.int .i64 40, .int .i64 fa, .int .i64 fb, .int .i64 imm, .int .u32 nn, .int .i64 label, .slice vp m vc] 52)).alloc (by simp) (.cells #[.int .i64 k, .int .i64 1, .int .i64 0, .int .i64 0, .int .i64 0] 95)).drew)) hlab
        have hr1 := look_run ((HM.out.below HB.out).below (((below_one wr (.cells #[.int .i64 40, .int .i64 fa, .int .i64 fb, .int .i64 imm, .int .u32 nn, .int .i64 label, .slice vp m vc] 52)).alloc (by simp) (.cells #[.int .i64 k, .int .i64 1, .int .i64 1, .int .i64 0, .int .i64 0] 95)).drew)) hlab
        have HEQ := Lib.hid (show partP l k = ⟨k, 1, 1, toP l label⟩ by unfold partP; rw [HX.out]; rfl)
        clear hlab h0
        go_upto_region 12 with (fail)
        go_region
        go_wp2_with (first
          | (go_at_call 82; refine (HBR.out _).mono ?_; rintro e w2 ⟨rfl, rfl⟩)
          | (at_builtin; refine wpList_append_part rfl (.tmp 65) (.tmp 67) rfl w.heap.size _ (partsN l k) ⟨k, 1, 1, toP l label⟩ rfl (HP.out.below (by first | exact ((below_one _ _).alloc (by simp) _).alloc (by simp <;> omega) _ | exact (((below_one _ _).alloc (by simp) _).alloc (by simp <;> omega) _).drew | exact (((below_one _ _).alloc (by simp) _).drew).alloc (by simp <;> omega) _)) ⟨wr.heap.size + 2, 0, none⟩ 1 rfl (part_news (by go_simp) (by go_simp) (by go_simp) (by go_simp) (by go_simp)) (by rw [parts_len]; omega) (by simp <;> omega) ?_; intro v' w' h1 h2 h3; have H1 := Lib.hid h1; have H2 := Lib.hid h2; clear h1 h2 h3))
        go_roundw
        case rel => exact ⟨k + 1, by omega, by go_num, Lib.hid (by rw [parts_step HO.out, HEQ.out]; exact H1.out), Lib.hid (Below.trans (bt HB.out (by first | exact ((below_one _ _).alloc (by simp) _).alloc (by simp <;> omega) _ | exact (((below_one _ _).alloc (by simp) _).alloc (by simp <;> omega) _).drew | exact (((below_one _ _).alloc (by simp) _).drew).alloc (by simp <;> omega) _)) H2.out)⟩
        case measure => simp [intOf]; omega
      by_cases h2 : op = 2
      · subst h2
        have HEQ := Lib.hid (show partP l k = ⟨k, 2, 0, 0⟩ by unfold partP; rw [HX.out]; rfl)
        clear h0 h40
        go_wp2_with (first
          | (go_at_call 82; refine (HBR.out _).mono ?_; rintro e w2 ⟨rfl, rfl⟩)
          | (at_builtin; refine wpList_append_part rfl (.tmp 65) (.tmp 67) rfl w.heap.size _ (partsN l k) ⟨k, 2, 0, 0⟩ rfl (HP.out.below (by first | exact ((below_one _ _).alloc (by simp) _).alloc (by simp <;> omega) _ | exact (((below_one _ _).alloc (by simp) _).alloc (by simp <;> omega) _).drew | exact (((below_one _ _).alloc (by simp) _).drew).alloc (by simp <;> omega) _)) ⟨wr.heap.size + 2, 0, none⟩ 1 rfl (part_news (by go_simp) (by go_simp) (by go_simp) (by go_simp) (by go_simp)) (by rw [parts_len]; omega) (by simp <;> omega) ?_; intro v' w' h1 h2 h3; have H1 := Lib.hid h1; have H2 := Lib.hid h2; clear h1 h2 h3))
        go_roundw
        case rel => exact ⟨k + 1, by omega, by go_num, Lib.hid (by rw [parts_step HO.out, HEQ.out]; exact H1.out), Lib.hid (Below.trans (bt HB.out (by first | exact ((below_one _ _).alloc (by simp) _).alloc (by simp <;> omega) _ | exact (((below_one _ _).alloc (by simp) _).alloc (by simp <;> omega) _).drew | exact (((below_one _ _).alloc (by simp) _).drew).alloc (by simp <;> omega) _)) H2.out)⟩
        case measure => simp [intOf]; omega
      by_cases h41 : op = 41
      · subst h41
        have HEQ := Lib.hid (show partP l k = ⟨k, 2, 0, 0⟩ by unfold partP; rw [HX.out]; rfl)
        clear h0 h40
        go_wp2_with (first
          | (go_at_call 82; refine (HBR.out _).mono ?_; rintro e w2 ⟨rfl, rfl⟩)
          | (at_builtin; refine wpList_append_part rfl (.tmp 65) (.tmp 67) rfl w.heap.size _ (partsN l k) ⟨k, 2, 0, 0⟩ rfl (HP.out.below (by first | exact ((below_one _ _).alloc (by simp) _).alloc (by simp <;> omega) _ | exact (((below_one _ _).alloc (by simp) _).alloc (by simp <;> omega) _).drew | exact (((below_one _ _).alloc (by simp) _).drew).alloc (by simp <;> omega) _)) ⟨wr.heap.size + 2, 0, none⟩ 1 rfl (part_news (by go_simp) (by go_simp) (by go_simp) (by go_simp) (by go_simp)) (by rw [parts_len]; omega) (by simp <;> omega) ?_; intro v' w' h1 h2 h3; have H1 := Lib.hid h1; have H2 := Lib.hid h2; clear h1 h2 h3))
        go_roundw
        case rel => exact ⟨k + 1, by omega, by go_num, Lib.hid (by rw [parts_step HO.out, HEQ.out]; exact H1.out), Lib.hid (Below.trans (bt HB.out (by first | exact ((below_one _ _).alloc (by simp) _).alloc (by simp <;> omega) _ | exact (((below_one _ _).alloc (by simp) _).alloc (by simp <;> omega) _).drew | exact (((below_one _ _).alloc (by simp) _).drew).alloc (by simp <;> omega) _)) H2.out)⟩
        case measure => simp [intOf]; omega
      by_cases h43 : op = 43
      · subst h43
        have HEQ := Lib.hid (show partP l k = ⟨k, 2, 0, 0⟩ by unfold partP; rw [HX.out]; rfl)
        clear h0 h40
        go_wp2_with (first
          | (go_at_call 82; refine (HBR.out _).mono ?_; rintro e w2 ⟨rfl, rfl⟩)
          | (at_builtin; refine wpList_append_part rfl (.tmp 65) (.tmp 67) rfl w.heap.size _ (partsN l k) ⟨k, 2, 0, 0⟩ rfl (HP.out.below (by first | exact ((below_one _ _).alloc (by simp) _).alloc (by simp <;> omega) _ | exact (((below_one _ _).alloc (by simp) _).alloc (by simp <;> omega) _).drew | exact (((below_one _ _).alloc (by simp) _).drew).alloc (by simp <;> omega) _)) ⟨wr.heap.size + 2, 0, none⟩ 1 rfl (part_news (by go_simp) (by go_simp) (by go_simp) (by go_simp) (by go_simp)) (by rw [parts_len]; omega) (by simp <;> omega) ?_; intro v' w' h1 h2 h3; have H1 := Lib.hid h1; have H2 := Lib.hid h2; clear h1 h2 h3))
        go_roundw
        case rel => exact ⟨k + 1, by omega, by go_num, Lib.hid (by rw [parts_step HO.out, HEQ.out]; exact H1.out), Lib.hid (Below.trans (bt HB.out (by first | exact ((below_one _ _).alloc (by simp) _).alloc (by simp <;> omega) _ | exact (((below_one _ _).alloc (by simp) _).alloc (by simp <;> omega) _).drew | exact (((below_one _ _).alloc (by simp) _).drew).alloc (by simp <;> omega) _)) H2.out)⟩
        case measure => simp [intOf]; omega
      by_cases h42 : op = 42
      · subst h42
        have HEQ := Lib.hid (show partP l k = ⟨k, 2 + m, 0, 0⟩ by unfold partP; rw [HX.out, ← HMM.out]; rfl)
        clear h0 h40
        go_wp2_with (first
          | (go_at_call 82; refine (HBR.out _).mono ?_; rintro e w2 ⟨rfl, rfl⟩)
          | (at_builtin; refine wpList_append_part rfl (.tmp 65) (.tmp 67) rfl w.heap.size _ (partsN l k) ⟨k, 2 + m, 0, 0⟩ rfl (HP.out.below (by first | exact ((below_one _ _).alloc (by simp) _).alloc (by simp <;> omega) _ | exact (((below_one _ _).alloc (by simp) _).alloc (by simp <;> omega) _).drew | exact (((below_one _ _).alloc (by simp) _).drew).alloc (by simp <;> omega) _)) ⟨wr.heap.size + 2, 0, none⟩ 1 rfl (part_news (by go_simp) (by go_simp) (by go_simp) (by go_simp) (by go_simp)) (by rw [parts_len]; omega) (by simp <;> omega) ?_; intro v' w' h1 h2 h3; have H1 := Lib.hid h1; have H2 := Lib.hid h2; clear h1 h2 h3))
        go_roundw
        case rel => exact ⟨k + 1, by omega, by go_num, Lib.hid (by rw [parts_step HO.out, HEQ.out]; exact H1.out), Lib.hid (Below.trans (bt HB.out (by first | exact ((below_one _ _).alloc (by simp) _).alloc (by simp <;> omega) _ | exact (((below_one _ _).alloc (by simp) _).alloc (by simp <;> omega) _).drew | exact (((below_one _ _).alloc (by simp) _).drew).alloc (by simp <;> omega) _)) H2.out)⟩
        case measure => simp [intOf]; omega
      have g0 : (op == 0) = false := by simpa using h0
      have g2 : (op == 2) = false := by simpa using h2
      have g41 : (op == 41) = false := by simpa using h41
      have g43 : (op == 43) = false := by simpa using h43
      have g42 : (op == 42) = false := by simpa using h42
      have g40 : (op == 40) = false := by simpa using h40
      obtain ⟨br, hbr⟩ : ∃ br, brB op = br := ⟨_, rfl⟩
      have HBE := Lib.hid (show branchOp op = br by rw [← hbr]; unfold branchOp brB; rw [Bool.eq_iff_iff]; simp; omega)
      have HBR2 := Lib.hid (fun w => hbr ▸ branches_prog op w)
      have q1 : ¬ (op = 2 ∨ op = 41 ∨ op = 43) := by omega
      cases br
      · have HEQ := Lib.hid (show partP l k = ⟨k, 1, 0, 0⟩ by unfold partP; rw [HX.out]; simp only; rw [if_neg q1, if_neg h42, if_neg h40, HBE.out]; rfl)
        clear h0 h2 h41 h42 h43 h40 q1 hbr
        go_wp2_with (first
          | (go_at_call 82; refine (HBR2.out _).mono ?_; rintro e w2 ⟨rfl, rfl⟩)
          | (at_builtin; refine wpList_append_part rfl (.tmp 65) (.tmp 67) rfl w.heap.size _ (partsN l k) ⟨k, 1, 0, 0⟩ rfl (HP.out.below (by first | exact ((below_one _ _).alloc (by simp) _).alloc (by simp <;> omega) _ | exact (((below_one _ _).alloc (by simp) _).alloc (by simp <;> omega) _).drew | exact (((below_one _ _).alloc (by simp) _).drew).alloc (by simp <;> omega) _)) ⟨wr.heap.size + 2, 0, none⟩ 1 rfl (part_news (by go_simp) (by go_simp) (by go_simp) (by go_simp) (by go_simp)) (by rw [parts_len]; omega) (by simp <;> omega) ?_; intro v' w' h1 h2 h3; have H1 := Lib.hid h1; have H2 := Lib.hid h2; clear h1 h2 h3))
        go_roundw
        case rel => exact ⟨k + 1, by omega, by go_num, Lib.hid (by rw [parts_step HO.out, HEQ.out]; exact H1.out), Lib.hid (Below.trans (bt HB.out (by first | exact ((below_one _ _).alloc (by simp) _).alloc (by simp <;> omega) _ | exact (((below_one _ _).alloc (by simp) _).alloc (by simp <;> omega) _).drew | exact (((below_one _ _).alloc (by simp) _).drew).alloc (by simp <;> omega) _)) H2.out)⟩
        case measure => simp [intOf]; omega
      · have HEQ := Lib.hid (show partP l k = ⟨k, 1, 2, toP l label⟩ by unfold partP; rw [HX.out]; simp only; rw [if_neg q1, if_neg h42, if_neg h40, HBE.out]; rfl)
        have hlab : 0 ≤ label ∧ label ≤ 100000 := fine_goals HFX.out label (by unfold goalsP leadB; simp only; rw [hbr]; simp)
        have hr0 := look_run ((HM.out.below HB.out).below (((below_one wr (.cells #[.int .i64 op, .int .i64 fa, .int .i64 fb, .int .i64 imm, .int .u32 nn, .int .i64 label, .slice vp m vc] 52)).alloc (by simp) (.cells #[.int .i64 k, .int .i64 1, .int .i64 0, .int .i64 0, .int .i64 0] 95)).drew)) hlab
        have hr1 := look_run ((HM.out.below HB.out).below (((below_one wr (.cells #[.int .i64 op, .int .i64 fa, .int .i64 fb, .int .i64 imm, .int .u32 nn, .int .i64 label, .slice vp m vc] 52)).alloc (by simp) (.cells #[.int .i64 k, .int .i64 1, .int .i64 2, .int .i64 0, .int .i64 0] 95)).drew)) hlab
        clear hlab h0 h2 h41 h42 h43 h40 q1 hbr
        go_upto_region 14 with (go_at_call 82; refine (HBR2.out _).mono ?_; rintro e w2 ⟨rfl, rfl⟩)
        go_region
        go_wp2_with (first
          | (go_at_call 82; refine (HBR2.out _).mono ?_; rintro e w2 ⟨rfl, rfl⟩)
          | (at_builtin; refine wpList_append_part rfl (.tmp 65) (.tmp 67) rfl w.heap.size _ (partsN l k) ⟨k, 1, 2, toP l label⟩ rfl (HP.out.below (by first | exact ((below_one _ _).alloc (by simp) _).alloc (by simp <;> omega) _ | exact (((below_one _ _).alloc (by simp) _).alloc (by simp <;> omega) _).drew | exact (((below_one _ _).alloc (by simp) _).drew).alloc (by simp <;> omega) _)) ⟨wr.heap.size + 2, 0, none⟩ 1 rfl (part_news (by go_simp) (by go_simp) (by go_simp) (by go_simp) (by go_simp)) (by rw [parts_len]; omega) (by simp <;> omega) ?_; intro v' w' h1 h2 h3; have H1 := Lib.hid h1; have H2 := Lib.hid h2; clear h1 h2 h3))
        go_roundw
        case rel => exact ⟨k + 1, by omega, by go_num, Lib.hid (by rw [parts_step HO.out, HEQ.out]; exact H1.out), Lib.hid (Below.trans (bt HB.out (by first | exact ((below_one _ _).alloc (by simp) _).alloc (by simp <;> omega) _ | exact (((below_one _ _).alloc (by simp) _).alloc (by simp <;> omega) _).drew | exact (((below_one _ _).alloc (by simp) _).drew).alloc (by simp <;> omega) _)) H2.out)⟩
        case measure => simp [intOf]; omega
    · have hkn : k = n := by omega
      subst hkn
      have i1 : ¬ ((k : Int) < (k : Int)) := by omega
      go_wp2
      go_ret
      exact ⟨_, rfl, by unfold partsP; rw [← HN.out]; exact HP.out, HB.out⟩
end Go.Proofs.YthojmbljlehpbaaGreatDoor.Relax
