/- What those that became long make of the others: the walk. -/
import Derived.Test.YtmnhafncdblklaaDoorAp
import Derived.Deep.RegionLaw
namespace Go.Proofs.YtmnhafncdblklaaDoor.Relax
open Go.RowKit Go.Proofs.YtmnhafncdblklaaDoor.Enc Go.Proofs.YtmnhafncdblklaaDoor.Graph

def SpreadPost (ps : List PP) (B : Nat) (v : Value) (S L : List Nat) (w : World) (e : Ending) (w' : World) : Prop :=
  ∃ vf F r', e = .returned vf ∧ RS ps (S ++ L) F r' ∧ PartsR w' B v ps r' ∧ NatsR w' w.heap.size vf F ∧ Below B w w'
theorem take_new {S L : List Nat} {a l : Nat} (hd : (S ++ L).Nodup) (hl : L[a]? = some l) : l ∉ S ++ L.take a := by
  intro h
  have hm : l ∈ L := List.mem_of_getElem? hl
  rw [List.nodup_append] at hd
  rcases List.mem_append.1 h with h1 | h1
  · exact hd.2.2 l h1 l hm rfl
  · have h5 : (L.take a ++ L.drop a).Nodup := by rw [List.take_append_drop]; exact hd.2.1
    rw [List.nodup_append] at h5
    exact h5.2.2 l h1 l (List.mem_of_getElem? (i := 0) (by rw [List.getElem?_drop]; exact hl)) rfl
theorem take_more {S L : List Nat} {a l : Nat} (hl : L[a]? = some l) : S ++ L.take (a + 1) = (S ++ L.take a) ++ [l] := by
  rw [List.take_add_one, hl, List.append_assoc]; rfl
set_option maxHeartbeats 8000000 in
set_option maxRecDepth 100000 in
theorem spread_prog (ps : List PP) (p : Option Addr) (c : Nat) (B Z : Nat) (S L : List Nat) (r : Nat → Int) (lp : Option Addr) (lc : Nat) (w : World) (hw : WF ps) (hP : PartsR w B (.slice p ps.length c) ps r)
    (hg : ∀ g, p = some ⟨g, 0, none⟩ → g < Z) (hL : NatsR w Z (.slice lp L.length lc) L) (hZ : Z ≤ w.heap.size) (hB : B ≤ Z) (hr : RS ps S L r) :
    Calls Tryd.prog 49 #[.slice p ps.length c, .slice lp L.length lc] w (SpreadPost ps B (.slice p ps.length c) S L w) := by
  have h6 := hw.size
  obtain ⟨n, hn⟩ : ∃ n, n = ps.length := ⟨_, rfl⟩
  obtain ⟨m, hm⟩ : ∃ m, m = L.length := ⟨_, rfl⟩
  have hsl := nodup_lt ps.length (S ++ L) hr.nd (fun i hi => ((hr.mem i).1 hi).1)
  rw [List.length_append] at hsl
  rw [← hn] at h6 hP hsl ⊢
  rw [← hm] at hL hsl ⊢
  have HP := Lib.hid hP
  have HN := Lib.hid hn
  have HM := Lib.hid hm
  have HW := Lib.hid hw
  have HL := Lib.hid hL
  have HRS := Lib.hid hr
  have HG := Lib.hid hg
  clear hP hn hw hL hr hm hg
  have m0 : (n : Int) ≤ 60000 := by omega
  have m1 : (0 : Int) ≤ n := by omega
  have m2 : (m : Int) ≤ 60000 := by omega
  go_enter Tryd.func49, Tryd.ntmps49
  go_wp2
  go_loopw [5, 13] (fun vf i wr => ∃ a : Nat, a ≤ m ∧ i = .int .i64 a ∧ ∃ F r', Hid (RI ps (S ++ L.take a) r') ∧ Hid (FarOf n r r' F) ∧ Hid (PartsR wr B (.slice p n c) ps r') ∧ Hid (NatsR wr w.heap.size vf F) ∧ Hid (NatsR wr Z (.slice lp m lc) L) ∧ Hid (Below B w wr) ∧ w.heap.size ≤ wr.heap.size) (fun _ i _ => m - (intOf i).toNat)
  case atStart => exact ⟨0, Nat.zero_le _, rfl, [], r, Lib.hid (by rw [List.take_zero, List.append_nil]; exact HRS.out.ri), Lib.hid (FarOf.refl _ _), HP, Lib.hid (World.ownsRow_nil _ _ _ _), HL, Lib.hid (Below.refl _ _), Nat.le_refl _⟩
  case round =>
    obtain ⟨a, ha, rfl, F, r', HRI, HFO, HPR, HNF, HNL, HB, hsz⟩ := hrel
    by_cases hla : a < m
    · obtain ⟨gl, l, rfl, hl, hgl1, hgl2, hc1, hc2, cl⟩ := HNL.out.at_ (k := a) (by have := HM.out; omega)
      have hln := ((HRS.out.mem l).1 (List.mem_append_right _ (List.mem_of_getElem? hl))).1
      rw [← HN.out] at hln
      have HNW := Lib.hid (take_new HRS.out.nd hl)
      have HTK := Lib.hid (take_more (S := S) hl)
      have HLL := Lib.hid hl
      rw [← HM.out] at hc1
      have i0 : (0 : Int) ≤ a := by omega
      have i1 : (a : Int) < m := by omega
      have i2 : (0 : Int) ≤ l := by omega
      have i3 : (l : Int) < n := by omega
      clear hl
      have HGL := Lib.hid ((HL.out.lt gl rfl).2)
      go_wp2
      all_goals
        go_loopw [5, 8] (fun vf i wr => ∃ j : Nat, j ≤ n + 1 ∧ i = .int .i64 j ∧ ∃ F r', Hid (RM ps (S ++ L.take a) l j r') ∧ Hid (FarOf n r r' F) ∧ Hid (PartsR wr B (.slice p n c) ps r') ∧ Hid (NatsR wr w.heap.size vf F) ∧ Hid (NatsR wr Z (.slice (some ⟨gl, 0, none⟩) m lc) L) ∧ Hid (Below B w wr) ∧ w.heap.size ≤ wr.heap.size) (fun _ i _ => n + 2 - (intOf i).toNat)
        case atStart => exact ⟨l - 127, by omega, by congr 1; omega, F, r', Lib.hid (HRI.out.start HW.out HNW.out (Nat.le_refl _)), HFO, HPR, HNF, HNL, HB, hsz⟩
        case round =>
          clear HRI HFO HPR HNF HNL HB hsz cl
          obtain ⟨j, hj, rfl, F1, r1, HRM, HFO, HPR, HNF, HNL, HB, hsz⟩ := hrel
          by_cases hmn : n ≤ l + 128
          · have d1 : decide ((n : Int) ≤ (l : Int) + 128) = true := by simp; omega
            by_cases hjn : j < n
            · have d2 : (j : Int) < (n : Int) := by omega
              have hjl : j < ps.length := by have := HN.out; omega
              have hll : l < ps.length := by have := HN.out; omega
              have HJL := Lib.hid hjl
              obtain ⟨g, rfl, hg1, hg2, hq1, hq2, c0, c1, c2, c3, c4, f4⟩ := HPR.out.at_ hjl
              obtain ⟨g', hg', _, _, _, _, _, _, cm, _, _, _⟩ := HPR.out.at_ hll
              injection hg' with hg'
              injection hg' with hg' _
              subst hg'
              rw [← HN.out] at hq1
              have hgz := HG.out g rfl
              have hfar := fun h => HRM.out.far HW.out HNW.out hll hjl h
              have HSTEP := Lib.hid (HRM.out.step HW.out HNW.out hll hjl)
              have hbd := HRM.out.bd j hjl
              have hbm := HW.out.more l hll
              have hbp := push_bd ps j l
              have hpb := prod_bd hbp hbm
              have hsl2 : (S ++ L.take a).length ≤ n := by rw [List.length_append, List.length_take]; omega
              rw [pushV_is] at hfar HSTEP hbp hpb
              clear hjl hll
              generalize hrj : r1 j = rj at *
              generalize hmq : (partAt ps l).more = ml at *
              generalize (partAt ps j).line = line at *
              generalize (partAt ps j).short = short at *
              generalize (partAt ps j).more = more at *
              generalize (partAt ps j).to = tt at *
              have HPU := Lib.hid (fun w hl c2 c3 => pushed_prog g (j * 5) more tt j l w hl c2 c3)
              generalize pushV more tt j l = pv at *
              obtain ⟨pr, hpr⟩ : ∃ pr, pr = pv * ml := ⟨_, rfl⟩
              rw [← hpr] at hpb hfar HSTEP
              obtain ⟨v, hv⟩ : ∃ v, v = rj + pr := ⟨_, rfl⟩
              rw [← hv] at hfar HSTEP
              have hbd2 : -30000000 ≤ rj ∧ rj ≤ 30000000 := by rw [if_neg (by omega)] at hbd; omega
              have w1 : IntKind.i64.wrap (pv * ml) = pr := by rw [← hpr]; exact IntWalk.i64_in _ (by omega)
              have w2 : IntKind.i64.wrap (rj + pr) = v := by rw [← hv]; exact IntWalk.i64_in _ (by omega)
              have HV := Lib.hid hv
              have HPQ := Lib.hid hpr
              have HRJ := Lib.hid hrj
              clear hpr hv hbd hbm hbp hrj hmq
              obtain ⟨wn, hwn⟩ : ∃ b, nearB rj = b := ⟨_, rfl⟩
              obtain ⟨vn, hvn⟩ : ∃ b, nearB v = b := ⟨_, rfl⟩
              have HNE := Lib.hid (fun w => hwn ▸ near_prog rj w)
              have HNV := Lib.hid (fun w => hvn ▸ near_prog v w)
              have HWN := Lib.hid hwn
              have HVN := Lib.hid hvn
              clear hwn hvn
              have HP2 := Lib.hid (HPR.out.stored HN.out j v)
              have HF2 := Lib.hid (HNF.out.setOther (g := g) (o := j * 5 + 4) (u := .int .i64 v) (by omega))
              have HL2 := Lib.hid (HNL.out.setOther (g := g) (o := j * 5 + 4) (u := .int .i64 v) hgz)
              have HB2 := Lib.hid (HB.out.setCell (p := ⟨g, j * 5 + 4, none⟩) hg1 (.int .i64 v))
              go_upto_region 10 with (go_at_call 63; refine (HNE.out _).mono ?_; rintro e w3 ⟨rfl, hw3⟩; have hw4 := hw3.symm; clear hw3; subst hw4)
              go_cut [10] (fun b wc => b = .bool wn ∧ Hid (wc = (wr.setCell ⟨g, j * 5 + 4, none⟩ (.int .i64 v)).drew))
              case first =>
                go_region_law (first | ((try go_simp); go_at_call 64; refine (HPU.out (World.drew _) hg2 c2 c3).mono ?_; rintro e w3 ⟨rfl, hw3⟩; have hw4 := hw3.symm; clear hw3; subst hw4))
                all_goals (go_wp2_with fail; go_meet; exact ⟨rfl, Lib.hid rfl⟩)
              case rest =>
                obtain ⟨rfl, hcw⟩ := hcut
                obtain rfl := hcw.out
                have cv : ((wr.setCell ⟨g, j * 5 + 4, none⟩ (.int .i64 v)).drew).cell? ⟨g, j * 5 + 4, none⟩ = some (.int .i64 v) := by
                  show (wr.setCell ⟨g, j * 5 + 4, none⟩ (.int .i64 v)).cell? ⟨g, j * 5 + 4, none⟩ = some (.int .i64 v)
                  exact World.cell?_setCell_same _ _ _ c4
                have HFN := Lib.hid hfar
                clear c0 c1 c2 c3 c4 cm f4 hcw hfar
                have hsame : vn = wn → Hid (FarOf n r (turnR r1 j v) F1) := fun h => Lib.hid (HFO.out.same (by rw [HVN.out, HRJ.out, HWN.out, h]))
                have hmore : wn = true → vn = false → Hid (FarOf n r (turnR r1 j v) (F1 ++ [j])) := fun h h2 => Lib.hid (HFO.out.more hjn (by rw [HRJ.out, HWN.out, h]) (by rw [HVN.out, h2]))
                have hfv : wn = false → vn = false := fun h => by rw [← HVN.out]; exact HFN.out (by rw [HWN.out, h])
                cases wn
                · have hvf : vn = false := hfv rfl
                  subst hvf
                  have HS := hsame rfl
                  clear hsame hmore hfv
                  go_wp2
                  go_roundw
                  case rel => exact ⟨j + 1, by omega, by go_num, _, _, HSTEP, HS, HP2, HF2, HL2, Lib.hid HB2.out.drew, by simp; omega⟩
                  case measure => simp [intOf]; omega
                · cases vn
                  · have HS := hmore rfl rfl
                    clear hsame hmore hfv
                    go_wp2_with (first | (go_at_call 63; refine (HNV.out _).mono ?_; rintro e w3 ⟨rfl, hw3⟩; have hw4 := hw3.symm; clear hw3; subst hw4) | (at_builtin; refine wpList_append_nat rfl (.tmp 63) (.tmp 65) rfl w.heap.size _ F1 j rfl (HF2.out.below (by first | exact (below_one _ _).drew | exact below_one _ _)) ⟨wr.heap.size, 0, none⟩ 1 rfl (one_news (by go_simp)) (by have := HFO.out.len; omega) (by simp <;> omega) ?_; intro v' w' h1 h2 h3; have H1 := Lib.hid h1; have H2 := Lib.hid h2; clear h1 h2 h3))
                    go_roundw
                    case rel =>
                      have hs2 := H2.out.size
                      have hgw : g < w.heap.size := by omega
                      refine ⟨j + 1, by omega, by go_num, _, _, HSTEP, HS, Lib.hid ?_, H1, Lib.hid ?_, Lib.hid ?_, ?_⟩
                      · exact own_block HP2.out ((H2.out.block g hgw).trans (Below.heap_alloc _ _ _ (by simp <;> omega)))
                      · exact (HL2.out.below (by first | exact (below_one _ _).drew | exact below_one _ _)).keepZ (fun q hq => by have e : some gl = some q := hq; injection e with e; have := HGL.out; omega) H2.out
                      · exact ((HB2.out.alloc (by simp <;> omega) _).drew).trans (H2.out.mono (by omega))
                      · simp at hs2; omega
                    case measure => simp [intOf]; omega
                  · have HS := hsame rfl
                    clear hsame hmore hfv
                    go_wp2_with (go_at_call 63; refine (HNV.out _).mono ?_; rintro e w3 ⟨rfl, hw3⟩; have hw4 := hw3.symm; clear hw3; subst hw4)
                    go_roundw
                    case rel => exact ⟨j + 1, by omega, by go_num, _, _, HSTEP, HS, HP2, HF2, HL2, Lib.hid HB2.out.drew, by simp; omega⟩
                    case measure => simp [intOf]; omega
            · have d2 : ¬ ((j : Int) < (n : Int)) := by omega
              go_wp2
              go_roundw
              case rel => exact ⟨a + 1, by omega, by go_num, F1, r1, Lib.hid (by rw [HTK.out]; exact HRM.out.done HW.out HNW.out (.inl (by have := HN.out; omega))), HFO, HPR, HNF, HNL, HB, hsz⟩
              case measure => simp [intOf]; omega
          · have d1 : decide ((n : Int) ≤ (l : Int) + 128) = false := by simp; omega
            by_cases hjn : j < l + 128
            · have d2 : (j : Int) < (l : Int) + 128 := by omega
              have hjn2 : j < n := by omega
              have d3 : (j : Int) < (n : Int) := by omega
              have hjl : j < ps.length := by have := HN.out; omega
              have hll : l < ps.length := by have := HN.out; omega
              have HJL := Lib.hid hjl
              obtain ⟨g, rfl, hg1, hg2, hq1, hq2, c0, c1, c2, c3, c4, f4⟩ := HPR.out.at_ hjl
              obtain ⟨g', hg', _, _, _, _, _, _, cm, _, _, _⟩ := HPR.out.at_ hll
              injection hg' with hg'
              injection hg' with hg' _
              subst hg'
              rw [← HN.out] at hq1
              have hgz := HG.out g rfl
              have hfar := fun h => HRM.out.far HW.out HNW.out hll hjl h
              have HSTEP := Lib.hid (HRM.out.step HW.out HNW.out hll hjl)
              have hbd := HRM.out.bd j hjl
              have hbm := HW.out.more l hll
              have hbp := push_bd ps j l
              have hpb := prod_bd hbp hbm
              have hsl2 : (S ++ L.take a).length ≤ n := by rw [List.length_append, List.length_take]; omega
              rw [pushV_is] at hfar HSTEP hbp hpb
              clear hjl hll
              generalize hrj : r1 j = rj at *
              generalize hmq : (partAt ps l).more = ml at *
              generalize (partAt ps j).line = line at *
              generalize (partAt ps j).short = short at *
              generalize (partAt ps j).more = more at *
              generalize (partAt ps j).to = tt at *
              have HPU := Lib.hid (fun w hl c2 c3 => pushed_prog g (j * 5) more tt j l w hl c2 c3)
              generalize pushV more tt j l = pv at *
              obtain ⟨pr, hpr⟩ : ∃ pr, pr = pv * ml := ⟨_, rfl⟩
              rw [← hpr] at hpb hfar HSTEP
              obtain ⟨v, hv⟩ : ∃ v, v = rj + pr := ⟨_, rfl⟩
              rw [← hv] at hfar HSTEP
              have hbd2 : -30000000 ≤ rj ∧ rj ≤ 30000000 := by rw [if_neg (by omega)] at hbd; omega
              have w1 : IntKind.i64.wrap (pv * ml) = pr := by rw [← hpr]; exact IntWalk.i64_in _ (by omega)
              have w2 : IntKind.i64.wrap (rj + pr) = v := by rw [← hv]; exact IntWalk.i64_in _ (by omega)
              have HV := Lib.hid hv
              have HPQ := Lib.hid hpr
              have HRJ := Lib.hid hrj
              clear hpr hv hbd hbm hbp hrj hmq
              obtain ⟨wn, hwn⟩ : ∃ b, nearB rj = b := ⟨_, rfl⟩
              obtain ⟨vn, hvn⟩ : ∃ b, nearB v = b := ⟨_, rfl⟩
              have HNE := Lib.hid (fun w => hwn ▸ near_prog rj w)
              have HNV := Lib.hid (fun w => hvn ▸ near_prog v w)
              have HWN := Lib.hid hwn
              have HVN := Lib.hid hvn
              clear hwn hvn
              have HP2 := Lib.hid (HPR.out.stored HN.out j v)
              have HF2 := Lib.hid (HNF.out.setOther (g := g) (o := j * 5 + 4) (u := .int .i64 v) (by omega))
              have HL2 := Lib.hid (HNL.out.setOther (g := g) (o := j * 5 + 4) (u := .int .i64 v) hgz)
              have HB2 := Lib.hid (HB.out.setCell (p := ⟨g, j * 5 + 4, none⟩) hg1 (.int .i64 v))
              go_upto_region 10 with (go_at_call 63; refine (HNE.out _).mono ?_; rintro e w3 ⟨rfl, hw3⟩; have hw4 := hw3.symm; clear hw3; subst hw4)
              go_cut [10] (fun b wc => b = .bool wn ∧ Hid (wc = (wr.setCell ⟨g, j * 5 + 4, none⟩ (.int .i64 v)).drew))
              case first =>
                go_region_law (first | ((try go_simp); go_at_call 64; refine (HPU.out (World.drew _) hg2 c2 c3).mono ?_; rintro e w3 ⟨rfl, hw3⟩; have hw4 := hw3.symm; clear hw3; subst hw4))
                all_goals (go_wp2_with fail; go_meet; exact ⟨rfl, Lib.hid rfl⟩)
              case rest =>
                obtain ⟨rfl, hcw⟩ := hcut
                obtain rfl := hcw.out
                have cv : ((wr.setCell ⟨g, j * 5 + 4, none⟩ (.int .i64 v)).drew).cell? ⟨g, j * 5 + 4, none⟩ = some (.int .i64 v) := by
                  show (wr.setCell ⟨g, j * 5 + 4, none⟩ (.int .i64 v)).cell? ⟨g, j * 5 + 4, none⟩ = some (.int .i64 v)
                  exact World.cell?_setCell_same _ _ _ c4
                have HFN := Lib.hid hfar
                clear c0 c1 c2 c3 c4 cm f4 hcw hfar
                have hsame : vn = wn → Hid (FarOf n r (turnR r1 j v) F1) := fun h => Lib.hid (HFO.out.same (by rw [HVN.out, HRJ.out, HWN.out, h]))
                have hmore : wn = true → vn = false → Hid (FarOf n r (turnR r1 j v) (F1 ++ [j])) := fun h h2 => Lib.hid (HFO.out.more hjn2 (by rw [HRJ.out, HWN.out, h]) (by rw [HVN.out, h2]))
                have hfv : wn = false → vn = false := fun h => by rw [← HVN.out]; exact HFN.out (by rw [HWN.out, h])
                cases wn
                · have hvf : vn = false := hfv rfl
                  subst hvf
                  have HS := hsame rfl
                  clear hsame hmore hfv
                  go_wp2
                  go_roundw
                  case rel => exact ⟨j + 1, by omega, by go_num, _, _, HSTEP, HS, HP2, HF2, HL2, Lib.hid HB2.out.drew, by simp; omega⟩
                  case measure => simp [intOf]; omega
                · cases vn
                  · have HS := hmore rfl rfl
                    clear hsame hmore hfv
                    go_wp2_with (first | (go_at_call 63; refine (HNV.out _).mono ?_; rintro e w3 ⟨rfl, hw3⟩; have hw4 := hw3.symm; clear hw3; subst hw4) | (at_builtin; refine wpList_append_nat rfl (.tmp 63) (.tmp 65) rfl w.heap.size _ F1 j rfl (HF2.out.below (by first | exact (below_one _ _).drew | exact below_one _ _)) ⟨wr.heap.size, 0, none⟩ 1 rfl (one_news (by go_simp)) (by have := HFO.out.len; omega) (by simp <;> omega) ?_; intro v' w' h1 h2 h3; have H1 := Lib.hid h1; have H2 := Lib.hid h2; clear h1 h2 h3))
                    go_roundw
                    case rel =>
                      have hs2 := H2.out.size
                      have hgw : g < w.heap.size := by omega
                      refine ⟨j + 1, by omega, by go_num, _, _, HSTEP, HS, Lib.hid ?_, H1, Lib.hid ?_, Lib.hid ?_, ?_⟩
                      · exact own_block HP2.out ((H2.out.block g hgw).trans (Below.heap_alloc _ _ _ (by simp <;> omega)))
                      · exact (HL2.out.below (by first | exact (below_one _ _).drew | exact below_one _ _)).keepZ (fun q hq => by have e : some gl = some q := hq; injection e with e; have := HGL.out; omega) H2.out
                      · exact ((HB2.out.alloc (by simp <;> omega) _).drew).trans (H2.out.mono (by omega))
                      · simp at hs2; omega
                    case measure => simp [intOf]; omega
                  · have HS := hsame rfl
                    clear hsame hmore hfv
                    go_wp2_with (go_at_call 63; refine (HNV.out _).mono ?_; rintro e w3 ⟨rfl, hw3⟩; have hw4 := hw3.symm; clear hw3; subst hw4)
                    go_roundw
                    case rel => exact ⟨j + 1, by omega, by go_num, _, _, HSTEP, HS, HP2, HF2, HL2, Lib.hid HB2.out.drew, by simp; omega⟩
                    case measure => simp [intOf]; omega
            · have d2 : ¬ ((j : Int) < (l : Int) + 128) := by omega
              go_wp2
              go_roundw
              case rel => exact ⟨a + 1, by omega, by go_num, F1, r1, Lib.hid (by rw [HTK.out]; exact HRM.out.done HW.out HNW.out (.inr (by omega))), HFO, HPR, HNF, HNL, HB, hsz⟩
              case measure => simp [intOf]; omega
    · have ham : a = m := by omega
      subst ham
      have i1 : ¬ ((a : Int) < (a : Int)) := by omega
      go_wp2
      go_ret
      have h2 := HRI.out
      rw [HM.out, List.take_length] at h2
      have h3 := HFO.out
      rw [HN.out] at h3
      exact ⟨_, F, r', rfl, spread_rs HRS.out h2 h3, HPR.out, HNF.out, HB.out⟩
end Go.Proofs.YtmnhafncdblklaaDoor.Relax
