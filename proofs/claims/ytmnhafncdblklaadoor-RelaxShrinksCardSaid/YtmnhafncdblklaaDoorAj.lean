/- The first line that goes to a label that stands nowhere: the program's own answer. -/
import Derived.Test.YtmnhafncdblklaaDoorAi
namespace Go.Proofs.YtmnhafncdblklaaDoor.Relax
open Go.RowKit Go.Proofs.YtmnhafncdblklaaDoor.Enc Go.Proofs.YtmnhafncdblklaaDoor.Graph Go.Maps

/-- Nothing is wrong with a line. -/
def Fine (x : PL) : Prop := wrongL x = 0
theorem fine_may {x : PL} (h : Fine x) : mayL x = true ∧ 0 ≤ x.op ∧ x.op ≤ 48 := by
  unfold Fine wrongL at h
  by_cases h1 : x.op < 0 ∨ 48 < x.op
  · rw [if_pos h1] at h; cases h
  · rw [if_neg h1] at h
    cases hm : mayL x with
    | true => exact ⟨rfl, by omega, by omega⟩
    | false => rw [hm] at h; cases h
theorem fine_goals {x : PL} (h : Fine x) : ∀ k ∈ goalsP x, 0 ≤ k ∧ k ≤ 100000 := by
  obtain ⟨hm, h1, h2⟩ := fine_may h
  rw [may_parts x h1 h2] at hm
  simp only [Bool.and_eq_true] at hm
  obtain ⟨⟨⟨_, hf⟩, ht⟩, _⟩ := hm
  intro k hk
  unfold goalsP at hk
  split at hk
  · rename_i hl
    unfold labelFitsB at hf
    rw [if_pos (.inr hl)] at hf
    have : k = x.label := by simpa using hk
    subst this
    unfold labelB at hf
    simpa using hf
  · unfold listFitsB at ht
    split at ht
    · simp only [Bool.and_eq_true, List.all_eq_true] at ht
      have := ht.2 k hk
      unfold labelB at this
      simpa using this
    · have : x.list = [] := by simpa using ht
      rw [this] at hk; cases hk
theorem goals_len {x : PL} (h : Fine x) : (goalsP x).length ≤ 400 := by
  obtain ⟨hm, h1, h2⟩ := fine_may h
  rw [may_parts x h1 h2] at hm
  simp only [Bool.and_eq_true] at hm
  obtain ⟨⟨_, ht⟩, _⟩ := hm
  unfold goalsP
  split
  · simp
  · unfold listFitsB at ht
    split at ht
    · simp only [Bool.and_eq_true, decide_eq_true_eq] at ht
      omega
    · have : x.list = [] := by simpa using ht
      rw [this]; simp
theorem labErr_goals {l : List PL} {k : Nat} {x : PL} (hx : l[k]? = some x) (h : Fine x) : labErr l k = if (goalsP x).all (standsB l) then 0 else 173 := by
  unfold labErr goalsP
  rw [lineAt_of hx, lead_goes]
  cases hl : leadB x.op with
  | true =>
    have : x.list = [] := (fields_go (fine_may h).1 (by rw [lead_goes]; exact hl)).2.2.2.2
    rw [this]
    generalize hq : standsB l x.label = q
    cases q <;> simp [hq]
  | false =>
    have e : x.list.any (fun k => !standsB l k) = !x.list.all (standsB l) := by rw [List.all_eq_not_any_not]; simp
    show (if (false && !standsB l x.label) || x.list.any (fun k => !standsB l k) then (173 : Int) else 0) = if (if false = true then [x.label] else x.list).all (standsB l) then 0 else 173
    rw [e, if_neg (by simp : ¬ (false = true)), Bool.false_and, Bool.false_or]
    generalize x.list.all (standsB l) = q
    cases q <;> rfl
def AstrayPost (l : List PL) (w : World) (e : Ending) (w' : World) : Prop :=
  (∃ (i : Nat) (er : Int), firstErr (labErr l) 0 l.length = some (i, er) ∧ er = 173 ∧ e = .returned (.int .i64 i) ∧ Below w.heap.size w w') ∨
  (firstErr (labErr l) 0 l.length = none ∧ e = .returned (.int .i64 (-1)) ∧ Below w.heap.size w w')
set_option maxHeartbeats 8000000 in
set_option maxRecDepth 100000 in
theorem astray_prog (l : List PL) (p : Option Addr) (c : Nat) (bm : Nat) (w : World) (hl : LinesR w (.slice p l.length c) l) (h6 : l.length ≤ 60000) (hM : MapAt w bm 60000 l l.length) (hf : ∀ x ∈ l, Fine x) :
    Calls Tryd.prog 28 #[.slice p l.length c, .map (some bm)] w (AstrayPost l w) := by
  obtain ⟨n, hn⟩ : ∃ n, n = l.length := ⟨_, rfl⟩
  rw [← hn] at h6 ⊢
  have HL := Lib.hid (hn ▸ hl : LinesR w (.slice p n c) l)
  have HN := Lib.hid hn
  have HM := Lib.hid (hn ▸ hM : MapAt w bm 60000 l n)
  have HF := Lib.hid hf
  clear hl hn hM hf
  have m0 : (n : Int) ≤ 60000 := by omega
  go_enter Tryd.func28, Tryd.ntmps28
  go_wp2; go_step3; go_wp2; go_step3; go_wp2
  go_loopw [5, 12] (fun f i wr => f = .int .i64 (-1) ∧ ∃ k : Nat, k ≤ n ∧ i = .int .i64 k ∧ Hid (firstErr (labErr l) 0 n = firstErr (labErr l) k (n - k)) ∧ Hid (Below w.heap.size w wr)) (fun _ i _ => n - (intOf i).toNat)
  case atStart => exact ⟨rfl, 0, Nat.zero_le _, rfl, Lib.hid rfl, Lib.hid (Below.refl _ _)⟩
  case round =>
    obtain ⟨rfl, k, hk, rfl, HP, HB⟩ := hrel
    by_cases hlt : k < n
    · obtain ⟨b, o, x, vl, rfl, hx, hbl, hr, hc1, hc2⟩ := lines_pt HL.out (k := k) (by have := HN.out; omega)
      replace hr := hr.below hbl HB.out
      obtain ⟨vp, vc, rfl⟩ := hr.list.form
      have HI := Lib.hid hr.list
      have hfx := HF.out x (List.mem_of_getElem? hx)
      obtain ⟨c0, c1, c2, c3, c4, c5, c6, _⟩ := hr
      have l0 : b < wr.heap.size := Nat.lt_of_lt_of_le hbl HB.out.size
      have HX0 := Lib.hid (BoxL.start wr 45 x (.slice vp x.list.length vc))
      have HQ := Lib.hid (labErr_goals hx hfx)
      have HG := Lib.hid (fun w hL => goals_prog x vp vc w hL)
      have HGL := Lib.hid (fine_goals hfx)
      have hgl := goals_len hfx
      obtain ⟨G, hG⟩ : ∃ G, goalsP x = G := ⟨_, rfl⟩
      obtain ⟨m, hm⟩ : ∃ m, G.length = m := ⟨_, rfl⟩
      unfold GoalsPost at HG
      rw [hG] at HQ HG HGL hgl
      rw [hm] at HG hgl
      have HMM := Lib.hid hm
      have i0 : (0 : Int) ≤ k := by omega
      have i1 : (k : Int) < n := by omega
      have i2 : (m : Int) ≤ 400 := by omega
      clear hx hfx hG hm
      go_upto_region 6 with (go_at_call 46; refine (HG.out _ (HI.out.below (below_one _ _))).mono ?_; rintro e w2 ⟨gp, gc, rfl, hgi, hb⟩; have HGI := Lib.hid hgi; have HB2 := Lib.hid (bt HB.out (HX0.out.next hb).b); clear hgi hb)
      have hsz2 : w.heap.size ≤ w2.heap.size := HB2.out.size
      go_wp2
      go_loopw [5, 20] (fun f j wr2 => f = .int .i64 (-1) ∧ ∃ a : Nat, a ≤ m ∧ j = .int .i64 a ∧ Hid ((G.take a).all (standsB l) = true) ∧ Hid (Below w2.heap.size w2 wr2)) (fun _ j _ => m - (intOf j).toNat)
      case atStart => exact ⟨rfl, 0, Nat.zero_le _, rfl, Lib.hid rfl, Lib.hid (Below.refl _ _)⟩
      case round =>
        obtain ⟨rfl, a, ha, rfl, HA, HB3⟩ := hrel
        by_cases hla : a < m
        · obtain ⟨b1, o1, g, rfl, hg, hgl1, hge, hc3, hc4⟩ := ints_pt HGI.out (k := a) (by have := HMM.out; omega)
          have hg1 := (HB3.out.cell (p := ⟨b1, o1 + a, none⟩) hgl1).trans hge
          have l1 : b1 < wr.heap.size := Nat.lt_of_lt_of_le hgl1 HB3.out.size
          have hlab := HGL.out g (List.mem_of_getElem? hg)
          have HGA := Lib.hid hg
          obtain ⟨sb, hsb⟩ : ∃ sb, standsB l g = sb := ⟨_, rfl⟩
          have hsb' : (standsAt l g n).isSome = sb := by rw [HN.out]; exact hsb
          have HT := Lib.hid (fun w1 hM => hsb' ▸ stands_prog bm 60000 l n g hlab w1 hM)
          have HSB := Lib.hid hsb
          have i3 : (0 : Int) ≤ a := by omega
          have i4 : (a : Int) < m := by omega
          clear hg hge hsb hsb' hlab
          cases sb
          · go_wp2_with (go_at_call 45; refine (HT.out _ ((HM.out.below HB2.out).below HB3.out)).mono ?_; rintro e w3 ⟨rfl, hb⟩; have HB4 := Lib.hid hb; clear hb)
            try rw [Exit.noGoto_ret]
            go_ret
            refine .inl ⟨k, 173, ?_, rfl, rfl, bt HB2.out (bt HB3.out HB4.out)⟩
            have h1 : labErr l k = 173 := by
              rw [HQ.out, if_neg]
              intro h
              have := List.all_eq_true.1 h g (List.mem_of_getElem? HGA.out)
              rw [HSB.out] at this; cases this
            rw [← HN.out, HP.out, firstErr_hit hlt (by rw [h1]; decide), h1]
          · go_wp2_with (go_at_call 45; refine (HT.out _ ((HM.out.below HB2.out).below HB3.out)).mono ?_; rintro e w3 ⟨rfl, hb⟩; have HB4 := Lib.hid hb; clear hb)
            go_roundw
            case rel => exact ⟨rfl, a + 1, by omega, by go_num, Lib.hid (all_take HA.out HGA.out HSB.out), Lib.hid (bt HB3.out HB4.out)⟩
            case measure => simp [intOf]; omega
        · have ham : a = m := by omega
          subst ham
          have i3 : ¬ ((a : Int) < (a : Int)) := by omega
          go_wp2
          go_roundw
          case rel =>
            refine ⟨rfl, k + 1, by omega, by go_num, Lib.hid ?_, Lib.hid (bt HB2.out HB3.out)⟩
            have h2 := HA.out
            rw [← HMM.out, List.take_length] at h2
            rw [HP.out, firstErr_step hlt (by rw [HQ.out, if_pos h2])]
          case measure => simp [intOf]; omega
    · have hkn : k = n := by omega
      subst hkn
      have i1 : ¬ ((k : Int) < (k : Int)) := by omega
      go_wp2
      try rw [Exit.noGoto_ret]
      go_ret
      refine .inr ⟨?_, rfl, HB.out⟩
      rw [← HN.out, HP.out, Nat.sub_self]; rfl
end Go.Proofs.YtmnhafncdblklaaDoor.Relax
