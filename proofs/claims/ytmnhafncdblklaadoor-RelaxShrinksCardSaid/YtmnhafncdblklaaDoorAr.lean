/- Rounds until none becomes long: the program's own answer. -/
import Derived.Test.YtmnhafncdblklaaDoorAq
import Derived.ScopeJumps
import Derived.WalkMore
namespace Go.Proofs.YtmnhafncdblklaaDoor.Relax
open Go.RowKit Go.Proofs.YtmnhafncdblklaaDoor.Enc Go.Proofs.YtmnhafncdblklaaDoor.Graph

def SettlePost (l : List PL) (B : Nat) (v : Value) (w : World) (e : Ending) (w' : World) : Prop :=
  ∃ S r, ∃ t : Nat, e = .returned (.int .i64 ((t : Int) + 1)) ∧ RT l S [] r t ∧ PartsR w' B v (partsP l) r ∧ Below B w w'
/-- Where the run stands when it goes back. -/
structure SJ (l : List PL) (p : Option Addr) (c B : Nat) (w : World) (S L : List Nat) (r : Nat → Int) (t Z : Nat) (lp : Option Addr) (lc : Nat) (w' : World) : Prop where
  rt : RT l S L r t
  ts : t ≤ S.length
  pr : PartsR w' B (.slice p (partsP l).length c) (partsP l) r
  g : ∀ g, p = some ⟨g, 0, none⟩ → g < Z
  lr : NatsR w' Z (.slice lp L.length lc) L
  z : Z ≤ w'.heap.size
  b : B ≤ Z
  bw : Below B w w'
theorem rt_start {l : List PL} {F : List Nat} {r : Nat → Int} (h : RS (partsP l) [] F r) : RT l [] F r 0 := ⟨h, flag_none l, fun s hs => absurd hs (by omega)⟩
set_option maxHeartbeats 8000000 in
set_option maxRecDepth 100000 in
theorem settle_prog (l : List PL) (ht : Taken l) (hs : l.length ≤ 60000) (p : Option Addr) (c : Nat) (B : Nat) (w : World) (hP : PartsR w B (.slice p (partsP l).length c) (partsP l) (fun _ => 0)) (hB : B ≤ w.heap.size) :
    Calls Tryd.prog 30 #[.slice p (partsP l).length c] w (SettlePost l B (.slice p (partsP l).length c) w) := by
  have hw := parts_wf ht hs
  have HME := Lib.hid (measure_prog (partsP l) p c B w hw hP hB)
  have HG := Lib.hid (show ∀ g, p = some ⟨g, 0, none⟩ → g < w.heap.size from fun g hg => by
    subst hg
    obtain ⟨_, ⟨h, _⟩ | ⟨g', cap, cur, h, _, h4, _⟩⟩ := hP
    · cases h
    · injection h with h _ _; injection h with h; injection h with h _; subst h; exact lt_of_block h4)
  have HSP := Lib.hid (fun Z S L r lp lc w hP hg hL hZ hB hr => spread_prog (partsP l) p c B Z S L r lp lc w hw hP hg hL hZ hB hr)
  have HN := Lib.hid (show ∀ (S L : List Nat) (r : Nat → Int), RS (partsP l) S L r → S.length + L.length ≤ (partsP l).length by
    intro S L r h
    have := nodup_lt (partsP l).length (S ++ L) h.nd (fun i hi => ((h.mem i).1 hi).1)
    rwa [List.length_append] at this)
  have HW := Lib.hid hw
  have HT := Lib.hid ht
  have HS := Lib.hid hs
  have HBB := Lib.hid hB
  have hsz := hw.size
  clear hw ht hs hP hB
  unfold MeasPost at HME
  unfold SpreadPost at HSP
  generalize hn : (partsP l).length = n at *
  have HNN := Lib.hid hn
  clear hn
  go_enter Tryd.func30, Tryd.ntmps30
  go_wp2
  refine wp_scope_jumps 0 (fun a' w' => ∃ S L r, ∃ t Z : Nat, ∃ lp lc u5 u6 u7 u8 u9 u10 u11 u12 u13 u14 u15, a' = { tmps := #[.slice p n c, undef, .int .i64 0, .slice lp L.length lc, .int .i64 ((t : Int) + 1), u5, u6, u7, u8, u9, u10, u11, u12, u13, u14, u15], defers := [] } ∧ SJ l p c B w S L r t Z lp lc w') (fun a' _ => n + 3 - (intOf (a'.tmps.getD 4 undef)).toNat) rfl ?_ ?_
  · go_wp2_with (go_at_call 48; refine HME.out.mono ?_; rintro e w2 ⟨vf, F, r, rfl, h1, h2, h3, h4⟩; have H1 := Lib.hid h1; have H2 := Lib.hid h2; have H3 := Lib.hid h3; have H4 := Lib.hid h4; clear h1 h2 h3 h4)
    obtain ⟨lp, lc, rfl⟩ := H3.out.form
    have HJ := Lib.hid (SJ.mk (l := l) (p := p) (c := c) (B := B) (w := w) (S := []) (L := F) (r := r) (t := 0) (Z := w.heap.size) (lp := lp) (lc := lc) (w' := w2) (rt_start H1.out) (Nat.zero_le _) (by rw [HNN.out]; exact H2.out) HG.out H3.out H4.out.size HBB.out H4.out)
    have HSQ := Lib.hid (fun w1 hP hL hZ hr => HSP.out w.heap.size [] F r lp lc w1 hP HJ.out.g hL hZ HJ.out.b hr)
    go_step3
    obtain ⟨m, hm⟩ : ∃ m, m = F.length := ⟨_, rfl⟩
    have hN1 := HN.out _ _ _ HJ.out.rt.rs
    have hts := HJ.out.ts
    rw [← hm] at hN1 HSQ ⊢
    have HM := Lib.hid hm
    clear hm
    by_cases h0 : m = 0
    · subst h0
      have HL0 := Lib.hid (List.length_eq_zero_iff.1 HM.out.symm)
      go_wp2
      simp only [Exit.jump]
      go_ret
      exact ⟨([] : List Nat), r, 0, rfl, by have := HJ.out.rt; rw [HL0.out] at this; exact this, by have := HJ.out.pr; rw [HNN.out] at this; exact this, HJ.out.bw⟩
    · have h1 : 0 < m := by omega
      have h2 : (0 : Int) < m := by omega
      have h3 : ((m : Int) == 0) = false := by simp; omega
      go_wp2_with (go_at_call 49; (with_reducible refine (HSQ.out _ (HNN.out ▸ HJ.out.pr) (HM.out ▸ HJ.out.lr) HJ.out.z HJ.out.rt.rs).mono ?_); rintro e w3 ⟨vf2, F2, r2, rfl, h1, h2, h3, h4⟩; have H1 := Lib.hid h1; have H2 := Lib.hid h2; have H3 := Lib.hid h3; have H4 := Lib.hid h4; clear h1 h2 h3 h4)
      obtain ⟨lp2, lc2, rfl⟩ := H3.out.form
      go_step3
      have hLne : F ≠ [] := fun h => h0 (by rw [HM.out, h]; rfl)
      refine ⟨rfl, ⟨([] : List Nat) ++ F, F2, r2, 0 + 1, w2.heap.size, lp2, lc2, _, _, _, _, _, _, _, _, _, _, _, rfl, ⟨HJ.out.rt.next HT.out HS.out hLne H1.out, by rw [List.length_append]; have := HM.out;  omega, HNN.out ▸ H2.out, fun g hg => Nat.lt_of_lt_of_le (HJ.out.g g hg) HJ.out.z, H3.out, ?_, Nat.le_trans HJ.out.b HJ.out.z, HJ.out.bw.trans H4.out⟩⟩⟩
      · exact (H4.out).size
  · intro a w2 hJ
    obtain ⟨S, L, r, t, Z, lp, lc, u5, u6, u7, u8, u9, u10, u11, u12, u13, u14, u15, rfl, hj⟩ := hJ
    have HJ := Lib.hid hj
    clear hj
    have HSQ := Lib.hid (fun w1 hP hL hZ hr => HSP.out Z S L r lp lc w1 hP HJ.out.g hL hZ HJ.out.b hr)
    obtain ⟨m, hm⟩ : ∃ m, m = L.length := ⟨_, rfl⟩
    have hN1 := HN.out _ _ _ HJ.out.rt.rs
    have hts := HJ.out.ts
    rw [← hm] at hN1 HSQ ⊢
    have HM := Lib.hid hm
    clear hm
    have j0 : (0 : Int) ≤ t := by omega
    have j1 : (t : Int) ≤ 60000 := by omega
    have j2 : IntKind.i64.wrap ((t : Int) + 1) = (t : Int) + 1 := IntWalk.i64_in _ (by omega)
    by_cases h0 : m = 0
    · subst h0
      have HL0 := Lib.hid (List.length_eq_zero_iff.1 HM.out.symm)
      go_wp2
      simp only [Exit.jump]
      go_ret
      exact ⟨S, r, t, rfl, by have := HJ.out.rt; rw [HL0.out] at this; exact this, by have := HJ.out.pr; rw [HNN.out] at this; exact this, HJ.out.bw⟩
    · have h1 : 0 < m := by omega
      have h2 : (0 : Int) < m := by omega
      have h3 : ((m : Int) == 0) = false := by simp; omega
      go_wp2_with (go_at_call 49; (with_reducible refine (HSQ.out _ (HNN.out ▸ HJ.out.pr) (HM.out ▸ HJ.out.lr) HJ.out.z HJ.out.rt.rs).mono ?_); rintro e w3 ⟨vf2, F2, r2, rfl, h1, h2, h3, h4⟩; have H1 := Lib.hid h1; have H2 := Lib.hid h2; have H3 := Lib.hid h3; have H4 := Lib.hid h4; clear h1 h2 h3 h4)
      obtain ⟨lp2, lc2, rfl⟩ := H3.out.form
      go_step3
      have hLne : L ≠ [] := fun h => h0 (by rw [HM.out, h]; rfl)
      refine ⟨rfl, ⟨S ++ L, F2, r2, t + 1, w2.heap.size, lp2, lc2, _, _, _, _, _, _, _, _, _, _, _, rfl, ⟨HJ.out.rt.next HT.out HS.out hLne H1.out, by rw [List.length_append]; have := HM.out; clear j2; omega, HNN.out ▸ H2.out, fun g hg => Nat.lt_of_lt_of_le (HJ.out.g g hg) HJ.out.z, H3.out, ?_, Nat.le_trans HJ.out.b HJ.out.z, HJ.out.bw.trans H4.out⟩⟩, ?_⟩
      · exact (H4.out).size
      · simp [intOf]; omega
end Go.Proofs.YtmnhafncdblklaaDoor.Relax
