/- The displacements of branches that are all short: the walk. -/
import Derived.Test.YtmnhafncdblklaaDoorAn
namespace Go.Proofs.YtmnhafncdblklaaDoor.Relax
open Go.RowKit Go.Proofs.YtmnhafncdblklaaDoor.Enc Go.Proofs.YtmnhafncdblklaaDoor.Graph

theorem NatsR.setOther {w : World} {B g o : Nat} {v u : Value} {F : List Nat} (h : NatsR w B v F) (hg : g < B) : NatsR (w.setCell ⟨g, o, none⟩ u) B v F :=
  World.ownsRow.kept (row := some g) h ⟨rfl, rfl, rfl, by simp, fun k _ hk => Below.heap_setCell _ _ _ _ (fun e => hk (by rw [e]))⟩ (by
    cases hv : v.ownBlock with
    | none => exact .inl rfl
    | some q => right; intro e; injection e with e; subst e; have := (h.lt q hv).1; omega)
theorem row_set {w : World} {b n g o : Nat} {f : Nat → Int} {u : Value} (h : RowI w b n f) (hg : b ≠ g) : RowI (w.setCell ⟨g, o, none⟩ u) b n f := h.setOther (by exact hg) _
theorem set_kept {w : World} {b c j k : Nat} {u v : Value} (h : c ≠ b ∨ j ≠ k) (hc : w.cell? ⟨b, k, none⟩ = some u) : (w.setCell ⟨c, j, none⟩ v).cell? ⟨b, k, none⟩ = some u :=
  (World.cell?_setCell_other _ _ _ _ (by rcases h with h | h <;> simp [h])).trans hc
theorem own_block {w w' : World} {B : Nat} {e : TypeId} {sz g n n' c : Nat} {xs : List Value} (h : w.ownsRow B e sz (.slice (some ⟨g, 0, none⟩) n c) n' xs) (hb : w'.heap[g]? = w.heap[g]?) : w'.ownsRow B e sz (.slice (some ⟨g, 0, none⟩) n c) n' xs := by
  obtain ⟨h1, ⟨h2, _⟩ | ⟨g', cap, cur, h2, h3, h4, h5⟩⟩ := h
  · cases h2
  · injection h2 with h2 h6 h7
    injection h2 with h2
    injection h2 with h2 _
    subst h2 h6 h7
    exact ⟨h1, .inr ⟨g, c, cur, rfl, h3, hb.trans h4, h5⟩⟩
theorem own_mono {w : World} {B B' : Nat} {e : TypeId} {sz n : Nat} {v : Value} {xs : List Value} (h : w.ownsRow B e sz v n xs) (hb : B' ≤ B) : w.ownsRow B' e sz v n xs := by
  obtain ⟨h1, h2 | ⟨g', cap, cur, h2, h3, h4⟩⟩ := h
  · exact ⟨h1, .inl h2⟩
  · exact ⟨h1, .inr ⟨g', cap, cur, h2, by omega, h4⟩⟩
set_option maxHeartbeats 8000000 in
set_option maxRecDepth 100000 in
theorem measure_prog (ps : List PP) (p : Option Addr) (c : Nat) (B : Nat) (w : World) (hw : WF ps) (hP : PartsR w B (.slice p ps.length c) ps (fun _ => 0)) (hB : B ≤ w.heap.size) :
    Calls Tryd.prog 48 #[.slice p ps.length c] w (MeasPost ps B (.slice p ps.length c) w) := by
  have h6 := hw.size
  have HST := Lib.hid (fun w hP => startsOf_prog ps (fun _ => 0) p c B w hw hP)
  unfold StartsPost at HST
  obtain ⟨n, hn⟩ : ∃ n, n = ps.length := ⟨_, rfl⟩
  rw [← hn] at h6 hP HST ⊢
  have HP := Lib.hid hP
  have HN := Lib.hid hn
  have HW := Lib.hid hw
  have HBW := Lib.hid hB
  clear hP hn hw hB
  have m0 : (n : Int) ≤ 60000 := by omega
  have m1 : (0 : Int) ≤ n := by omega
  go_enter Tryd.func48, Tryd.ntmps48
  go_wp2_with (go_at_call 31; refine (HST.out _ HP.out).mono ?_; rintro e w2 ⟨rfl, hr, hb⟩; have HR2 := Lib.hid hr; have hz2 := hr.lt; have HB2 := Lib.hid hb; clear hr hb)
  go_loopw [4, 11] (fun vf i wr => ∃ k : Nat, k ≤ n ∧ i = .int .i64 k ∧ Hid (PartsR wr B (.slice p n c) ps (measR ps k)) ∧ Hid (NatsR wr w2.heap.size vf (farN ps k)) ∧ Hid (RowI wr w.heap.size (n + 1) (stS ps [])) ∧ Hid (Below B w wr) ∧ w2.heap.size ≤ wr.heap.size) (fun _ i _ => n - (intOf i).toNat)
  case atStart =>
    refine ⟨0, Nat.zero_le _, rfl, Lib.hid ?_, Lib.hid (World.ownsRow_nil _ _ _ _), Lib.hid (HR2.out.congr fun j _ => by rw [stR_none]), Lib.hid (HB2.out.mono HBW.out), Nat.le_refl _⟩
    have : measR ps 0 = fun _ => 0 := by funext j; unfold measR; rw [if_neg (by omega)]
    rw [this]; exact HP.out.below HB2.out
  case round =>
    obtain ⟨k, hk, rfl, HPR, HF, HR, HB, hsz⟩ := hrel
    by_cases hlt : k < n
    · have hkl : k < ps.length := by have := HN.out; omega
      have HL := Lib.hid hkl
      have hg0 : ∀ g, p = some ⟨g, 0, none⟩ → g < w.heap.size := fun g hg => by
        obtain ⟨g', h1, _, h2, _⟩ := HP.out.at_ hkl
        rw [hg] at h1; injection h1 with h1; injection h1 with h1 _; omega
      obtain ⟨g, rfl, hg1, hg2, hc1, hc2, c0, c1, c2, c3, c4, f4⟩ := HPR.out.at_ hkl
      have hg3 := hg0 g rfl
      have i0 : (0 : Int) ≤ k := by omega
      have i1 : (k : Int) < n := by omega
      have hfl := farN_len ps k
      have hmt := HW.out.to k hkl
      have HM0 := Lib.hid (fun h => meas_stay (ps := ps) (k := k) h)
      have HM1 := Lib.hid (fun h => meas_turn (ps := ps) (k := k) h)
      have HFE := Lib.hid (show farN ps (k + 1) = farN ps k ++ (if (partAt ps k).more ≠ 0 ∧ nearB (dispS ps [] k) = false then [k] else []) from rfl)
      have HD := Lib.hid (show dispS ps [] k = stS ps [] (partAt ps k).to.toNat - stS ps [] (k + 1) from rfl)
      have hbd1 := stS_bd HW.out [] (k := k + 1) (by have := HN.out; omega)
      have hbd2 := fun h => stS_bd HW.out [] (k := (partAt ps k).to.toNat) h
      clear hg0
      rw [← HN.out] at hmt hc1 hbd2
      have r1 := HR.out.cell (i := k + 1) (by omega)
      generalize hq : partAt ps k = q at *
      obtain ⟨line, short, more, tt⟩ := q
      simp only at c0 c1 c2 c3 hmt HM0 HM1 HFE HD hbd2
      have HQ := Lib.hid hq
      clear hq hkl
      by_cases hmr : more = 0
      · have g1 : (more == 0) = true := by simpa using hmr
        have HMM := Lib.hid hmr
        clear hmr hmt hbd1 hbd2 r1 hfl
        go_wp2
        go_roundw
        case rel =>
          exact ⟨k + 1, by omega, by go_num, Lib.hid (by rw [HM0.out HMM.out]; exact HPR.out), Lib.hid (by rw [HFE.out, if_neg (fun h => h.1 HMM.out), List.append_nil]; exact HF.out), HR, HB, hsz⟩
        case measure => simp [intOf]; omega
      obtain ⟨ht1, ht2⟩ := hmt hmr
      obtain ⟨T, rfl⟩ : ∃ T : Nat, tt = (T : Int) := ⟨tt.toNat, by omega⟩
      rw [Int.toNat_natCast] at hbd2 HD
      have hbd3 := hbd2 (by omega)
      have r2 := HR.out.cell (i := T) (by omega)
      have HMM := Lib.hid hmr
      have g1 : (more == 0) = false := by simpa using hmr
      clear hmr hmt hbd2
      generalize stS ps [] (k + 1) = s1 at *
      generalize stS ps [] T = s2 at *
      generalize hdq : dispS ps [] k = d at *
      have HDQ := Lib.hid hdq
      clear hdq
      have i2 : IntKind.i64.wrap ((k : Int) + 1) = (k : Int) + 1 := IntWalk.i64_in _ (by omega)
      have i3 : ((k : Int) + 1).toNat = k + 1 := by omega
      have i4 : IntKind.i64.wrap (s2 - s1) = d := by rw [HD.out]; exact IntWalk.i64_in _ (by omega)
      have i5 : (0 : Int) ≤ (k : Int) + 1 := by omega
      have i6 : (k : Int) + 1 < (n : Int) + 1 := by omega
      have i7 : (0 : Int) ≤ (T : Int) := by omega
      have i8 : (T : Int) < (n : Int) + 1 := by omega
      obtain ⟨nd, hnd⟩ : ∃ nd, nearB d = nd := ⟨_, rfl⟩
      have HNE := Lib.hid (fun w => hnd ▸ near_prog d w)
      have HND := Lib.hid hnd
      clear hnd
      have hgz : g < w2.heap.size := by omega
      have HP2 := Lib.hid (HPR.out.stored HN.out k d)
      have HF2 := Lib.hid (HF.out.setOther (g := g) (o := k * 5 + 4) (u := .int .i64 d) hgz)
      have HR2 := Lib.hid (row_set (o := k * 5 + 4) (u := .int .i64 d) HR.out (by omega : w.heap.size ≠ g))
      have HB2 := Lib.hid (HB.out.setCell (p := ⟨g, k * 5 + 4, none⟩) hg1 (.int .i64 d))
      go_upto_region 8 with (fail)
      go_region
      cases nd
      · go_wp2_with (first
          | (go_at_call 63; refine (HNE.out _).mono ?_; rintro e w3 ⟨rfl, rfl⟩)
          | (at_builtin; refine wpList_append_nat rfl (.tmp 44) (.tmp 46) rfl w2.heap.size _ (farN ps k) k rfl (HF2.out.below (by first | exact (below_one _ _).drew | exact below_one _ _)) ⟨wr.heap.size, 0, none⟩ 1 rfl (one_news (by go_simp)) (by omega) (by simp <;> omega) ?_; intro v' w' h1 h2 h3; have H1 := Lib.hid h1; have H2 := Lib.hid h2; clear h1 h2 h3))
        go_roundw
        case rel =>
          have hs2 := H2.out.size
          refine ⟨k + 1, by omega, by go_num, Lib.hid ?_, Lib.hid ?_, Lib.hid ?_, Lib.hid ?_, ?_⟩
          · rw [HM1.out HMM.out]
            exact own_block HP2.out ((H2.out.block g hgz).trans (Below.heap_alloc _ _ _ (by simp <;> omega)))
          · rw [HFE.out, if_pos ⟨HMM.out, HND.out⟩]; exact H1.out
          · exact (HR2.out.alloc _).of_block (H2.out.block _ hz2)
          · exact (HB2.out.alloc (by have := HBW.out; simp <;> omega) _).drew.trans (H2.out.mono (by omega))
          · simp at hs2; omega
        case measure => simp [intOf]; omega
      · go_wp2_with (go_at_call 63; refine (HNE.out _).mono ?_; rintro e w3 ⟨rfl, rfl⟩)
        go_roundw
        case rel =>
          refine ⟨k + 1, by omega, by go_num, Lib.hid ?_, Lib.hid ?_, HR2, Lib.hid HB2.out.drew, ?_⟩
          · rw [HM1.out HMM.out]; exact HP2.out
          · rw [HFE.out, if_neg (fun h => by rw [HND.out] at h; cases h.2), List.append_nil]; exact HF2.out
          · simp; omega
        case measure => simp [intOf]; omega
    · have hkn : k = n := by omega
      subst hkn
      have i1 : ¬ ((k : Int) < (k : Int)) := by omega
      go_wp2
      go_ret
      refine ⟨_, _, _, rfl, meas_ri HW.out, by rw [← HN.out]; exact HPR.out, ?_, HB.out⟩
      rw [← HN.out]
      exact own_mono HF.out (by omega)
end Go.Proofs.YtmnhafncdblklaaDoor.Relax
