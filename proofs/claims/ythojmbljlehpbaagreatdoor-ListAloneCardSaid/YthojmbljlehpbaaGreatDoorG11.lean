/- What those that became long make of the others: the walk. -/
import Derived.Test.YthojmbljlehpbaaGreatDoorG10
import Derived.Deep.RegionLaw
import Derived.ScopeJumps
import Derived.WalkMore
import Derived.Deep.AppendLies
namespace Go.Proofs.YthojmbljlehpbaaGreatDoor.Relax
open Go.RowKit Go.Proofs.YthojmbljlehpbaaGreatDoor.Enc Go.Proofs.YthojmbljlehpbaaGreatDoor.Graph

def SpreadPost (ps : List PP) (B : Nat) (v : Value) (S L : List Nat) (w : World) (e : Ending) (w' : World) : Prop :=
  ∃ vf F r', e = .returned vf ∧ RS ps (S ++ L) F r' ∧ PartsR w' B v ps r' ∧ NatsR w' w.heap.size vf F ∧ Below B w w'
theorem take_new {S L : List Nat} {a l : Nat} (hd : (S ++ L).Nodup) (hl : L[a]? = some l) : l ∉ S ++ L.take a := by
  intro h
  have hm : l ∈ L := List.mem_of_getElem? hl
  rw [List.nodup_append] at hd
  rcases List.mem_append.1 h with h1 | h1
  · exact hd.2.2 l h1 l hm rfl
  · have h5 : (L.take a ++ L.drop a).Nodup := by rw [List.take_append_drop]; exact hd.2.1
    rw [List.nodup_append] at h5
    exact h5.2.2 l h1 l (List.mem_of_getElem? (i := 0) (by rw [List.getElem?_drop]; exact hl)) rfl
theorem take_more {S L : List Nat} {a l : Nat} (hl : L[a]? = some l) : S ++ L.take (a + 1) = (S ++ L.take a) ++ [l] := by
  rw [List.take_add_one, hl, List.append_assoc]; rfl
set_option maxHeartbeats 8000000 in
set_option maxRecDepth 100000 in
theorem spread_prog (ps : List PP) (p : Option Addr) (c : Nat) (B Z : Nat) (S L : List Nat) (r : Nat → Int) (lp : Option Addr) (lc : Nat) (w : World) (hw : WF ps) (hP : PartsR w B (.slice p ps.length c) ps r)
    (hg : ∀ g, p = some ⟨g, 0, none⟩ → g < Z) (hL : NatsR w Z (.slice lp L.length lc) L) (hZ : Z ≤ w.heap.size) (hB : B ≤ Z) (hr : RS ps S L r) :
    Calls Tryz.prog 84 #[.slice p ps.length c, .slice lp L.length lc] w (SpreadPost ps B (.slice p ps.length c) S L w) := by
  have h6 := hw.size
  obtain ⟨n, hn⟩ : ∃ n, n = ps.length := ⟨_, rfl⟩
  obtain ⟨m, hm⟩ : ∃ m, m = L.length := ⟨_, rfl⟩
  have hsl := nodup_lt ps.length (S ++ L) hr.nd (fun i hi => ((hr.mem i).1 hi).1)
  rw [List.length_append] at hsl
  rw [← hn] at h6 hP hsl ⊢
  rw [← hm] at hL hsl ⊢
  have HP := Lib.hid hP
  have HN := Lib.hid hn
  have HM := Lib.hid hm
  have HW := Lib.hid hw
  have HL := Lib.hid hL
  have HRS := Lib.hid hr
  have HG := Lib.hid hg
  clear hP hn hw hL hr hm hg
  have m0 : (n : Int) ≤ 60000 := by omega
  have m1 : (0 : Int) ≤ n := by omega
  have m2 : (m : Int) ≤ 60000 := by omega
  go_enter Tryz.func84, Tryz.ntmps84
  go_wp2
  go_loopw [5, 13] (fun vf i wr => ∃ a : Nat, a ≤ m ∧ i = .int .i64 a ∧ ∃ F r', Hid (RI ps (S ++ L.take a) r') ∧ Hid (FarOf n r r' F) ∧ Hid (PartsR wr B (.slice p n c) ps r') ∧ Hid (NatsR wr w.heap.size vf F) ∧ Hid (NatsR wr Z (.slice lp m lc) L) ∧ Hid (Below B w wr) ∧ w.heap.size ≤ wr.heap.size) (fun _ i _ => m - (intOf i).toNat)
  case atStart => exact ⟨0, Nat.zero_le _, rfl, [], r, Lib.hid (by rw [List.take_zero, List.append_nil]; exact HRS.out.ri), Lib.hid (FarOf.refl _ _), HP, Lib.hid (World.ownsRow_nil _ _ _ _), HL, Lib.hid (Below.refl _ _), Nat.le_refl _⟩
  case round =>
    obtain ⟨a, ha, rfl, F, r', HRI, HFO, HPR, HNF, HNL, HB, hsz⟩ := hrel
    by_cases hla : a < m
    · obtain ⟨gl, l, rfl, hl, hgl1, hgl2, hc1, hc2, cl⟩ := HNL.out.at_ (k := a) (by have := HM.out; omega)
      have hln := ((HRS.out.mem l).1 (List.mem_append_right _ (List.mem_of_getElem? hl))).1
      rw [← HN.out] at hln
      have HNW := Lib.hid (take_new HRS.out.nd hl)
      have HTK := Lib.hid (take_more (S := S) hl)
      have HLL := Lib.hid hl
      rw [← HM.out] at hc1
      have i0 : (0 : Int) ≤ a := by omega
      have i1 : (a : Int) < m := by omega
      have i2 : (0 : Int) ≤ l := by omega
      have i3 : (l : Int) < n := by omega
      clear hl
      have HGL := Lib.hid ((HL.out.lt gl rfl).2)
      go_wp2
      all_goals
        go_loopw [5, 8] (fun vf i wr => ∃ j : Nat, j ≤ n + 1 ∧ i = .int .i64 j ∧ ∃ F r', Hid (RM ps (S ++ L.take a) l j r') ∧ Hid (FarOf n r r' F) ∧ Hid (PartsR wr B (.slice p n c) ps r') ∧ Hid (NatsR wr w.heap.size vf F) ∧ Hid (NatsR wr Z (.slice (some ⟨gl, 0, none⟩) m lc) L) ∧ Hid (Below B w wr) ∧ w.heap.size ≤ wr.heap.size) (fun _ i _ => n + 2 - (intOf i).toNat)
        case atStart => exact ⟨l - 127, by omega, by congr 1; omega, F, r', Lib.hid (HRI.out.start HW.out HNW.out (Nat.le_refl _)), HFO, HPR, HNF, HNL, HB, hsz⟩
        case round =>
          clear HRI HFO HPR HNF HNL HB hsz cl
          obtain ⟨j, hj, rfl, F1, r1, HRM, HFO, HPR, HNF, HNL, HB, hsz⟩ := hrel
          by_cases hmn : n ≤ l + 128
          · have d1 : decide ((n : Int) ≤ (l : Int) + 128) = true := by simp; omega
            by_cases hjn : j < n
            · have d2 : (j : Int) < (n : Int) := by omega
              have hjl : j < ps.length := by have := HN.out; omega
              have hll : l < ps.length := by have := HN.out; omega
              have HJL := Lib.hid hjl
              obtain ⟨g, rfl, hg1, hg2, hq1, hq2, c0, c1, c2, c3, c4, f4⟩ := HPR.out.at_ hjl
              obtain ⟨g', hg', _, _, _, _, _, _, cm, _, _, _⟩ := HPR.out.at_ hll
              injection hg' with hg'
              injection hg' with hg' _
              subst hg'
              rw [← HN.out] at hq1
              have hgz := HG.out g rfl
              have hfar := fun h => HRM.out.far HW.out HNW.out hll hjl h
              have HSTEP := Lib.hid (HRM.out.step HW.out HNW.out hll hjl)
              have hbd := HRM.out.bd j hjl
              have hbm := HW.out.more l hll
              have hbp := push_bd ps j l
              have hpb := prod_bd hbp hbm
              have hsl2 : (S ++ L.take a).length ≤ n := by rw [List.length_append, List.length_take]; omega
              rw [pushV_is] at hfar HSTEP hbp hpb
              clear hjl hll
              generalize hrj : r1 j = rj at *
              generalize hmq : (partAt ps l).more = ml at *
              generalize (partAt ps j).line = line at *
              generalize (partAt ps j).short = short at *
              generalize (partAt ps j).more = more at *
              generalize (partAt ps j).to = tt at *
              have HPU := Lib.hid (fun w hl c2 c3 => pushed_prog g (j * 5) more tt j l w hl c2 c3)
              generalize pushV more tt j l = pv at *
              obtain ⟨pr, hpr⟩ : ∃ pr, pr = pv * ml := ⟨_, rfl⟩
              rw [← hpr] at hpb hfar HSTEP
              obtain ⟨v, hv⟩ : ∃ v, v = rj + pr := ⟨_, rfl⟩
              rw [← hv] at hfar HSTEP
              have hbd2 : -30000000 ≤ rj ∧ rj ≤ 30000000 := by rw [if_neg (by omega)] at hbd; omega
              have w1 : IntKind.i64.wrap (pv * ml) = pr := by rw [← hpr]; exact IntWalk.i64_in _ (by omega)
              have w2 : IntKind.i64.wrap (rj + pr) = v := by rw [← hv]; exact IntWalk.i64_in _ (by omega)
              have HV := Lib.hid hv
              have HPQ := Lib.hid hpr
              have HRJ := Lib.hid hrj
              clear hpr hv hbd hbm hbp hrj hmq
              obtain ⟨wn, hwn⟩ : ∃ b, nearB rj = b := ⟨_, rfl⟩
              obtain ⟨vn, hvn⟩ : ∃ b, nearB v = b := ⟨_, rfl⟩
              have HNE := Lib.hid (fun w => hwn ▸ near_prog rj w)
              have HNV := Lib.hid (fun w => hvn ▸ near_prog v w)
              have HWN := Lib.hid hwn
              have HVN := Lib.hid hvn
              clear hwn hvn
              have HP2 := Lib.hid (HPR.out.stored HN.out j v)
              have HF2 := Lib.hid (HNF.out.setOther (g := g) (o := j * 5 + 4) (u := .int .i64 v) (by omega))
              have HL2 := Lib.hid (HNL.out.setOther (g := g) (o := j * 5 + 4) (u := .int .i64 v) hgz)
              have HB2 := Lib.hid (HB.out.setCell (p := ⟨g, j * 5 + 4, none⟩) hg1 (.int .i64 v))
              go_upto_region 10 with (go_at_call 116; refine (HNE.out _).mono ?_; rintro e w3 ⟨rfl, hw3⟩; have hw4 := hw3.symm; clear hw3; subst hw4)
              go_cut [10] (fun b wc => b = .bool wn ∧ Hid (wc = (wr.setCell ⟨g, j * 5 + 4, none⟩ (.int .i64 v)).drew))
              case first =>
                go_region_law (first | ((try go_simp); go_at_call 117; refine (HPU.out (World.drew _) hg2 c2 c3).mono ?_; rintro e w3 ⟨rfl, hw3⟩; have hw4 := hw3.symm; clear hw3; subst hw4))
                all_goals (go_wp2_with fail; go_meet; exact ⟨rfl, Lib.hid rfl⟩)
              case rest =>
                obtain ⟨rfl, hcw⟩ := hcut
                obtain rfl := hcw.out
                have cv : ((wr.setCell ⟨g, j * 5 + 4, none⟩ (.int .i64 v)).drew).cell? ⟨g, j * 5 + 4, none⟩ = some (.int .i64 v) := by
                  show (wr.setCell ⟨g, j * 5 + 4, none⟩ (.int .i64 v)).cell? ⟨g, j * 5 + 4, none⟩ = some (.int .i64 v)
                  exact World.cell?_setCell_same _ _ _ c4
                have HFN := Lib.hid hfar
                clear c0 c1 c2 c3 c4 cm f4 hcw hfar
                have hsame : vn = wn → Hid (FarOf n r (turnR r1 j v) F1) := fun h => Lib.hid (HFO.out.same (by rw [HVN.out, HRJ.out, HWN.out, h]))
                have hmore : wn = true → vn = false → Hid (FarOf n r (turnR r1 j v) (F1 ++ [j])) := fun h h2 => Lib.hid (HFO.out.more hjn (by rw [HRJ.out, HWN.out, h]) (by rw [HVN.out, h2]))
                have hfv : wn = false → vn = false := fun h => by rw [← HVN.out]; exact HFN.out (by rw [HWN.out, h])
                cases wn
                · have hvf : vn = false := hfv rfl
                  subst hvf
                  have HS := hsame rfl
                  clear hsame hmore hfv
                  go_wp2
                  go_roundw
                  case rel => exact ⟨j + 1, by omega, by go_num, _, _, HSTEP, HS, HP2, HF2, HL2, Lib.hid HB2.out.drew, by simp; omega⟩
                  case measure => simp [intOf]; omega
                · cases vn
                  · have HS := hmore rfl rfl
                    clear hsame hmore hfv
                    go_wp2_with (first | (go_at_call 116; refine (HNV.out _).mono ?_; rintro e w3 ⟨rfl, hw3⟩; have hw4 := hw3.symm; clear hw3; subst hw4) | (at_builtin; refine wpList_append_nat rfl (.tmp 63) (.tmp 65) rfl w.heap.size _ F1 j rfl (HF2.out.below (by first | exact (below_one _ _).drew | exact below_one _ _)) ⟨wr.heap.size, 0, none⟩ 1 rfl (one_news (by go_simp)) (by have := HFO.out.len; omega) (by simp <;> omega) ?_; intro v' w' h1 h2 h3; have H1 := Lib.hid h1; have H2 := Lib.hid h2; clear h1 h2 h3))
                    go_roundw
                    case rel =>
                      have hs2 := H2.out.size
                      have hgw : g < w.heap.size := by omega
                      refine ⟨j + 1, by omega, by go_num, _, _, HSTEP, HS, Lib.hid ?_, H1, Lib.hid ?_, Lib.hid ?_, ?_⟩
                      · exact own_block HP2.out ((H2.out.block g hgw).trans (Below.heap_alloc _ _ _ (by simp <;> omega)))
                      · exact (HL2.out.below (by first | exact (below_one _ _).drew | exact below_one _ _)).keepZ (fun q hq => by have e : some gl = some q := hq; injection e with e; have := HGL.out; omega) H2.out
                      · exact ((HB2.out.alloc (by simp <;> omega) _).drew).trans (H2.out.mono (by omega))
                      · simp at hs2; omega
                    case measure => simp [intOf]; omega
                  · have HS := hsame rfl
                    clear hsame hmore hfv
                    go_wp2_with (go_at_call 116; refine (HNV.out _).mono ?_; rintro e w3 ⟨rfl, hw3⟩; have hw4 := hw3.symm; clear hw3; subst hw4)
                    go_roundw
                    case rel => exact ⟨j + 1, by omega, by go_num, _, _, HSTEP, HS, HP2, HF2, HL2, Lib.hid HB2.out.drew, by simp; omega⟩
                    case measure => simp [intOf]; omega
            · have d2 : ¬ ((j : Int) < (n : Int)) := by omega
              go_wp2
              go_roundw
              case rel => exact ⟨a + 1, by omega, by go_num, F1, r1, Lib.hid (by rw [HTK.out]; exact HRM.out.done HW.out HNW.out (.inl (by have := HN.out; omega))), HFO, HPR, HNF, HNL, HB, hsz⟩
              case measure => simp [intOf]; omega
          · have d1 : decide ((n : Int) ≤ (l : Int) + 128) = false := by simp; omega
            by_cases hjn : j < l + 128
            · have d2 : (j : Int) < (l : Int) + 128 := by omega
              have hjn2 : j < n := by omega
              have d3 : (j : Int) < (n : Int) := by omega
              have hjl : j < ps.length := by have := HN.out; omega
              have hll : l < ps.length := by have := HN.out; omega
              have HJL := Lib.hid hjl
              obtain ⟨g, rfl, hg1, hg2, hq1, hq2, c0, c1, c2, c3, c4, f4⟩ := HPR.out.at_ hjl
              obtain ⟨g', hg', _, _, _, _, _, _, cm, _, _, _⟩ := HPR.out.at_ hll
              injection hg' with hg'
              injection hg' with hg' _
              subst hg'
              rw [← HN.out] at hq1
              have hgz := HG.out g rfl
              have hfar := fun h => HRM.out.far HW.out HNW.out hll hjl h
              have HSTEP := Lib.hid (HRM.out.step HW.out HNW.out hll hjl)
              have hbd := HRM.out.bd j hjl
              have hbm := HW.out.more l hll
              have hbp := push_bd ps j l
              have hpb := prod_bd hbp hbm
              have hsl2 : (S ++ L.take a).length ≤ n := by rw [List.length_append, List.length_take]; omega
              rw [pushV_is] at hfar HSTEP hbp hpb
              clear hjl hll
              generalize hrj : r1 j = rj at *
              generalize hmq : (partAt ps l).more = ml at *
              generalize (partAt ps j).line = line at *
              generalize (partAt ps j).short = short at *
              generalize (partAt ps j).more = more at *
              generalize (partAt ps j).to = tt at *
              have HPU := Lib.hid (fun w hl c2 c3 => pushed_prog g (j * 5) more tt j l w hl c2 c3)
              generalize pushV more tt j l = pv at *
              obtain ⟨pr, hpr⟩ : ∃ pr, pr = pv * ml := ⟨_, rfl⟩
              rw [← hpr] at hpb hfar HSTEP
              obtain ⟨v, hv⟩ : ∃ v, v = rj + pr := ⟨_, rfl⟩
              rw [← hv] at hfar HSTEP
              have hbd2 : -30000000 ≤ rj ∧ rj ≤ 30000000 := by rw [if_neg (by omega)] at hbd; omega
              have w1 : IntKind.i64.wrap (pv * ml) = pr := by rw [← hpr]; exact IntWalk.i64_in _ (by omega)
              have w2 : IntKind.i64.wrap (rj + pr) = v := by rw [← hv]; exact IntWalk.i64_in _ (by omega)
              have HV := Lib.hid hv
              have HPQ := Lib.hid hpr
              have HRJ := Lib.hid hrj
              clear hpr hv hbd hbm hbp hrj hmq
              obtain ⟨wn, hwn⟩ : ∃ b, nearB rj = b := ⟨_, rfl⟩
              obtain ⟨vn, hvn⟩ : ∃ b, nearB v = b := ⟨_, rfl⟩
              have HNE := Lib.hid (fun w => hwn ▸ near_prog rj w)
              have HNV := Lib.hid (fun w => hvn ▸ near_prog v w)
              have HWN := Lib.hid hwn
              have HVN := Lib.hid hvn
              clear hwn hvn
              have HP2 := Lib.hid (HPR.out.stored HN.out j v)
              have HF2 := Lib.hid (HNF.out.setOther (g := g) (o := j * 5 + 4) (u := .int .i64 v) (by omega))
              have HL2 := Lib.hid (HNL.out.setOther (g := g) (o := j * 5 + 4) (u := .int .i64 v) hgz)
              have HB2 := Lib.hid (HB.out.setCell (p := ⟨g, j * 5 + 4, none⟩) hg1 (.int .i64 v))
              go_upto_region 10 with (go_at_call 116; refine (HNE.out _).mono ?_; rintro e w3 ⟨rfl, hw3⟩; have hw4 := hw3.symm; clear hw3; subst hw4)
              go_cut [10] (fun b wc => b = .bool wn ∧ Hid (wc = (wr.setCell ⟨g, j * 5 + 4, none⟩ (.int .i64 v)).drew))
              case first =>
                go_region_law (first | ((try go_simp); go_at_call 117; refine (HPU.out (World.drew _) hg2 c2 c3).mono ?_; rintro e w3 ⟨rfl, hw3⟩; have hw4 := hw3.symm; clear hw3; subst hw4))
                all_goals (go_wp2_with fail; go_meet; exact ⟨rfl, Lib.hid rfl⟩)
              case rest =>
                obtain ⟨rfl, hcw⟩ := hcut
                obtain rfl := hcw.out
                have cv : ((wr.setCell ⟨g, j * 5 + 4, none⟩ (.int .i64 v)).drew).cell? ⟨g, j * 5 + 4, none⟩ = some (.int .i64 v) := by
                  show (wr.setCell ⟨g, j * 5 + 4, none⟩ (.int .i64 v)).cell? ⟨g, j * 5 + 4, none⟩ = some (.int .i64 v)
                  exact World.cell?_setCell_same _ _ _ c4
                have HFN := Lib.hid hfar
                clear c0 c1 c2 c3 c4 cm f4 hcw hfar
                have hsame : vn = wn → Hid (FarOf n r (turnR r1 j v) F1) := fun h => Lib.hid (HFO.out.same (by rw [HVN.out, HRJ.out, HWN.out, h]))
                have hmore : wn = true → vn = false → Hid (FarOf n r (turnR r1 j v) (F1 ++ [j])) := fun h h2 => Lib.hid (HFO.out.more hjn2 (by rw [HRJ.out, HWN.out, h]) (by rw [HVN.out, h2]))
                have hfv : wn = false → vn = false := fun h => by rw [← HVN.out]; exact HFN.out (by rw [HWN.out, h])
                cases wn
                · have hvf : vn = false := hfv rfl
                  subst hvf
                  have HS := hsame rfl
                  clear hsame hmore hfv
                  go_wp2
                  go_roundw
                  case rel => exact ⟨j + 1, by omega, by go_num, _, _, HSTEP, HS, HP2, HF2, HL2, Lib.hid HB2.out.drew, by simp; omega⟩
                  case measure => simp [intOf]; omega
                · cases vn
                  · have HS := hmore rfl rfl
                    clear hsame hmore hfv
                    go_wp2_with (first | (go_at_call 116; refine (HNV.out _).mono ?_; rintro e w3 ⟨rfl, hw3⟩; have hw4 := hw3.symm; clear hw3; subst hw4) | (at_builtin; refine wpList_append_nat rfl (.tmp 63) (.tmp 65) rfl w.heap.size _ F1 j rfl (HF2.out.below (by first | exact (below_one _ _).drew | exact below_one _ _)) ⟨wr.heap.size, 0, none⟩ 1 rfl (one_news (by go_simp)) (by have := HFO.out.len; omega) (by simp <;> omega) ?_; intro v' w' h1 h2 h3; have H1 := Lib.hid h1; have H2 := Lib.hid h2; clear h1 h2 h3))
                    go_roundw
                    case rel =>
                      have hs2 := H2.out.size
                      have hgw : g < w.heap.size := by omega
                      refine ⟨j + 1, by omega, by go_num, _, _, HSTEP, HS, Lib.hid ?_, H1, Lib.hid ?_, Lib.hid ?_, ?_⟩
                      · exact own_block HP2.out ((H2.out.block g hgw).trans (Below.heap_alloc _ _ _ (by simp <;> omega)))
                      · exact (HL2.out.below (by first | exact (below_one _ _).drew | exact below_one _ _)).keepZ (fun q hq => by have e : some gl = some q := hq; injection e with e; have := HGL.out; omega) H2.out
                      · exact ((HB2.out.alloc (by simp <;> omega) _).drew).trans (H2.out.mono (by omega))
                      · simp at hs2; omega
                    case measure => simp [intOf]; omega
                  · have HS := hsame rfl
                    clear hsame hmore hfv
                    go_wp2_with (go_at_call 116; refine (HNV.out _).mono ?_; rintro e w3 ⟨rfl, hw3⟩; have hw4 := hw3.symm; clear hw3; subst hw4)
                    go_roundw
                    case rel => exact ⟨j + 1, by omega, by go_num, _, _, HSTEP, HS, HP2, HF2, HL2, Lib.hid HB2.out.drew, by simp; omega⟩
                    case measure => simp [intOf]; omega
            · have d2 : ¬ ((j : Int) < (l : Int) + 128) := by omega
              go_wp2
              go_roundw
              case rel => exact ⟨a + 1, by omega, by go_num, F1, r1, Lib.hid (by rw [HTK.out]; exact HRM.out.done HW.out HNW.out (.inr (by omega))), HFO, HPR, HNF, HNL, HB, hsz⟩
              case measure => simp [intOf]; omega
    · have ham : a = m := by omega
      subst ham
      have i1 : ¬ ((a : Int) < (a : Int)) := by omega
      go_wp2
      go_ret
      have h2 := HRI.out
      rw [HM.out, List.take_length] at h2
      have h3 := HFO.out
      rw [HN.out] at h3
      exact ⟨_, F, r', rfl, spread_rs HRS.out h2 h3, HPR.out, HNF.out, HB.out⟩
end Go.Proofs.YthojmbljlehpbaaGreatDoor.Relax
namespace Go.Proofs.YthojmbljlehpbaaGreatDoor.Relax
open Go.RowKit Go.Proofs.YthojmbljlehpbaaGreatDoor.Enc Go.Proofs.YthojmbljlehpbaaGreatDoor.Graph

def SettlePost (l : List PL) (B : Nat) (v : Value) (w : World) (e : Ending) (w' : World) : Prop :=
  ∃ S r, ∃ t : Nat, e = .returned (.int .i64 ((t : Int) + 1)) ∧ RT l S [] r t ∧ PartsR w' B v (partsP l) r ∧ Below B w w'
/-- Where the run stands when it goes back. -/
structure SJ (l : List PL) (p : Option Addr) (c B : Nat) (w : World) (S L : List Nat) (r : Nat → Int) (t Z : Nat) (lp : Option Addr) (lc : Nat) (w' : World) : Prop where
  rt : RT l S L r t
  ts : t ≤ S.length
  pr : PartsR w' B (.slice p (partsP l).length c) (partsP l) r
  g : ∀ g, p = some ⟨g, 0, none⟩ → g < Z
  lr : NatsR w' Z (.slice lp L.length lc) L
  z : Z ≤ w'.heap.size
  b : B ≤ Z
  bw : Below B w w'
theorem rt_start {l : List PL} {F : List Nat} {r : Nat → Int} (h : RS (partsP l) [] F r) : RT l [] F r 0 := ⟨h, flag_none l, fun s hs => absurd hs (by omega)⟩
set_option maxHeartbeats 8000000 in
set_option maxRecDepth 100000 in
theorem settle_prog (l : List PL) (ht : Taken l) (hs : l.length ≤ 60000) (p : Option Addr) (c : Nat) (B : Nat) (w : World) (hP : PartsR w B (.slice p (partsP l).length c) (partsP l) (fun _ => 0)) (hB : B ≤ w.heap.size) :
    Calls Tryz.prog 50 #[.slice p (partsP l).length c] w (SettlePost l B (.slice p (partsP l).length c) w) := by
  have hw := parts_wf ht hs
  have HME := Lib.hid (measure_prog (partsP l) p c B w hw hP hB)
  have HG := Lib.hid (show ∀ g, p = some ⟨g, 0, none⟩ → g < w.heap.size from fun g hg => by
    subst hg
    obtain ⟨_, ⟨h, _⟩ | ⟨g', cap, cur, h, _, h4, _⟩⟩ := hP
    · cases h
    · injection h with h _ _; injection h with h; injection h with h _; subst h; exact lt_of_block h4)
  have HSP := Lib.hid (fun Z S L r lp lc w hP hg hL hZ hB hr => spread_prog (partsP l) p c B Z S L r lp lc w hw hP hg hL hZ hB hr)
  have HN := Lib.hid (show ∀ (S L : List Nat) (r : Nat → Int), RS (partsP l) S L r → S.length + L.length ≤ (partsP l).length by
    intro S L r h
    have := nodup_lt (partsP l).length (S ++ L) h.nd (fun i hi => ((h.mem i).1 hi).1)
    rwa [List.length_append] at this)
  have HW := Lib.hid hw
  have HT := Lib.hid ht
  have HS := Lib.hid hs
  have HBB := Lib.hid hB
  have hsz := hw.size
  clear hw ht hs hP hB
  unfold MeasPost at HME
  unfold SpreadPost at HSP
  generalize hn : (partsP l).length = n at *
  have HNN := Lib.hid hn
  clear hn
  go_enter Tryz.func50, Tryz.ntmps50
  go_wp2
  refine wp_scope_jumps 0 (fun a' w' => ∃ S L r, ∃ t Z : Nat, ∃ lp lc u5 u6 u7 u8 u9 u10 u11 u12 u13 u14 u15, a' = { tmps := #[.slice p n c, undef, .int .i64 0, .slice lp L.length lc, .int .i64 ((t : Int) + 1), u5, u6, u7, u8, u9, u10, u11, u12, u13, u14, u15], defers := [] } ∧ SJ l p c B w S L r t Z lp lc w') (fun a' _ => n + 3 - (intOf (a'.tmps.getD 4 undef)).toNat) rfl ?_ ?_
  · go_wp2_with (go_at_call 83; refine HME.out.mono ?_; rintro e w2 ⟨vf, F, r, rfl, h1, h2, h3, h4⟩; have H1 := Lib.hid h1; have H2 := Lib.hid h2; have H3 := Lib.hid h3; have H4 := Lib.hid h4; clear h1 h2 h3 h4)
    obtain ⟨lp, lc, rfl⟩ := H3.out.form
    have HJ := Lib.hid (SJ.mk (l := l) (p := p) (c := c) (B := B) (w := w) (S := []) (L := F) (r := r) (t := 0) (Z := w.heap.size) (lp := lp) (lc := lc) (w' := w2) (rt_start H1.out) (Nat.zero_le _) (by rw [HNN.out]; exact H2.out) HG.out H3.out H4.out.size HBB.out H4.out)
    have HSQ := Lib.hid (fun w1 hP hL hZ hr => HSP.out w.heap.size [] F r lp lc w1 hP HJ.out.g hL hZ HJ.out.b hr)
    go_step3
    obtain ⟨m, hm⟩ : ∃ m, m = F.length := ⟨_, rfl⟩
    have hN1 := HN.out _ _ _ HJ.out.rt.rs
    have hts := HJ.out.ts
    rw [← hm] at hN1 HSQ ⊢
    have HM := Lib.hid hm
    clear hm
    by_cases h0 : m = 0
    · subst h0
      have HL0 := Lib.hid (List.length_eq_zero_iff.1 HM.out.symm)
      go_wp2
      simp only [Exit.jump]
      go_ret
      exact ⟨([] : List Nat), r, 0, rfl, by have := HJ.out.rt; rw [HL0.out] at this; exact this, by have := HJ.out.pr; rw [HNN.out] at this; exact this, HJ.out.bw⟩
    · have h1 : 0 < m := by omega
      have h2 : (0 : Int) < m := by omega
      have h3 : ((m : Int) == 0) = false := by simp; omega
      go_wp2_with (go_at_call 84; (with_reducible refine (HSQ.out _ (HNN.out ▸ HJ.out.pr) (HM.out ▸ HJ.out.lr) HJ.out.z HJ.out.rt.rs).mono ?_); rintro e w3 ⟨vf2, F2, r2, rfl, h1, h2, h3, h4⟩; have H1 := Lib.hid h1; have H2 := Lib.hid h2; have H3 := Lib.hid h3; have H4 := Lib.hid h4; clear h1 h2 h3 h4)
      obtain ⟨lp2, lc2, rfl⟩ := H3.out.form
      go_step3
      have hLne : F ≠ [] := fun h => h0 (by rw [HM.out, h]; rfl)
      refine ⟨rfl, ⟨([] : List Nat) ++ F, F2, r2, 0 + 1, w2.heap.size, lp2, lc2, _, _, _, _, _, _, _, _, _, _, _, rfl, ⟨HJ.out.rt.next HT.out HS.out hLne H1.out, by rw [List.length_append]; have := HM.out;  omega, HNN.out ▸ H2.out, fun g hg => Nat.lt_of_lt_of_le (HJ.out.g g hg) HJ.out.z, H3.out, ?_, Nat.le_trans HJ.out.b HJ.out.z, HJ.out.bw.trans H4.out⟩⟩⟩
      · exact (H4.out).size
  · intro a w2 hJ
    obtain ⟨S, L, r, t, Z, lp, lc, u5, u6, u7, u8, u9, u10, u11, u12, u13, u14, u15, rfl, hj⟩ := hJ
    have HJ := Lib.hid hj
    clear hj
    have HSQ := Lib.hid (fun w1 hP hL hZ hr => HSP.out Z S L r lp lc w1 hP HJ.out.g hL hZ HJ.out.b hr)
    obtain ⟨m, hm⟩ : ∃ m, m = L.length := ⟨_, rfl⟩
    have hN1 := HN.out _ _ _ HJ.out.rt.rs
    have hts := HJ.out.ts
    rw [← hm] at hN1 HSQ ⊢
    have HM := Lib.hid hm
    clear hm
    have j0 : (0 : Int) ≤ t := by omega
    have j1 : (t : Int) ≤ 60000 := by omega
    have j2 : IntKind.i64.wrap ((t : Int) + 1) = (t : Int) + 1 := IntWalk.i64_in _ (by omega)
    by_cases h0 : m = 0
    · subst h0
      have HL0 := Lib.hid (List.length_eq_zero_iff.1 HM.out.symm)
      go_wp2
      simp only [Exit.jump]
      go_ret
      exact ⟨S, r, t, rfl, by have := HJ.out.rt; rw [HL0.out] at this; exact this, by have := HJ.out.pr; rw [HNN.out] at this; exact this, HJ.out.bw⟩
    · have h1 : 0 < m := by omega
      have h2 : (0 : Int) < m := by omega
      have h3 : ((m : Int) == 0) = false := by simp; omega
      go_wp2_with (go_at_call 84; (with_reducible refine (HSQ.out _ (HNN.out ▸ HJ.out.pr) (HM.out ▸ HJ.out.lr) HJ.out.z HJ.out.rt.rs).mono ?_); rintro e w3 ⟨vf2, F2, r2, rfl, h1, h2, h3, h4⟩; have H1 := Lib.hid h1; have H2 := Lib.hid h2; have H3 := Lib.hid h3; have H4 := Lib.hid h4; clear h1 h2 h3 h4)
      obtain ⟨lp2, lc2, rfl⟩ := H3.out.form
      go_step3
      have hLne : L ≠ [] := fun h => h0 (by rw [HM.out, h]; rfl)
      refine ⟨rfl, ⟨S ++ L, F2, r2, t + 1, w2.heap.size, lp2, lc2, _, _, _, _, _, _, _, _, _, _, _, rfl, ⟨HJ.out.rt.next HT.out HS.out hLne H1.out, by rw [List.length_append]; have := HM.out; clear j2; omega, HNN.out ▸ H2.out, fun g hg => Nat.lt_of_lt_of_le (HJ.out.g g hg) HJ.out.z, H3.out, ?_, Nat.le_trans HJ.out.b HJ.out.z, HJ.out.bw.trans H4.out⟩⟩, ?_⟩
      · exact (H4.out).size
      · simp [intOf]; omega
end Go.Proofs.YthojmbljlehpbaaGreatDoor.Relax
namespace Go.Proofs.YthojmbljlehpbaaGreatDoor.Relax
open Go.RowKit Go.Proofs.YthojmbljlehpbaaGreatDoor.Enc Go.Proofs.YthojmbljlehpbaaGreatDoor.Graph

/-- One cell appended to a row of one's own: where the row lies then. -/
theorem wpList_append_cell {w : World} {ops : Array Oper} {rest : List Oper} {o : Oper} {a : Act} {Q : Exit → Act → World → Prop} (hgd : o.guard = none) (s x : Operand) (t e : TypeId) (z : Value) (by_ : Nat)
    (ho : o.op = .call { callee := .builtin .append, args := #[s, x], argTypes := #[t, t] }) (ht : Tryz.prog.underlying t = some (.slice e)) (hinfo : (Tryz.prog.info? e).map (fun i => (i.zero, i.size, i.bytes)) = some (some z, 1, by_)) (hz : z.cells.size = 1) (hby : 1 ≤ by_ ∧ by_ ≤ 8)
    (B : Nat) (v : Value) (n : Nat) (ys : List Value) (hs : a.eval s = v) (hown : w.ownsRow B e 1 v n ys) (hB : B ≤ w.heap.size) (u : Value) (h1 : u.oneCell' = true) (b c : Nat) (hx : a.eval x = .slice (some ⟨b, 0, none⟩) 1 c) (hnews : w.cell? ⟨b, 0, none⟩ = some u) (hn : n ≤ 1000000)
    (h : ∀ g cap w', w'.ownsRow B e 1 (.slice (some ⟨g, 0, none⟩) (n + 1) cap) (n + 1) (ys ++ [u]) → w.grownBy w' v.ownBlock → (v.ownBlock = some g ∨ g = w.heap.size) → wpList Tryz.prog ops Q rest (a.put o.dst (.slice (some ⟨g, 0, none⟩) (n + 1) cap)) w') : wpList Tryz.prog ops Q (o :: rest) a w := by
  obtain ⟨i0, HI, hz0, hz1, hz2⟩ := info_parts hinfo
  have hm : (n + 1) * by_ ≤ (n + 1) * 8 := Nat.mul_le_mul_left _ hby.2
  refine wpList_append_lies w hgd s x t ho B e i0 z 1 by_ ht HI hz0 hz1 hz2 hz (by omega) v n ys hs hown ⟨b, 0, none⟩ 1 c [u] hx rfl (one_news hnews) (fun y hy => by rw [List.mem_singleton.1 hy]; exact h1) (by omega) (by unfold maxLen; omega) (by omega) hB _ rfl ?_
  intro g cap w' h5 h6 h7 _
  exact h g cap w' h5 h6 h7
theorem info_wordA : (Tryz.prog.info? 50).map (fun i => (i.zero, i.size, i.bytes)) = some (some (.int .u32 0), 1, 4) := by kernel_rfl
/-- What a call on a writer may turn: blocks of G; the writer's blocks behind it, G', are those or new. -/
structure WK (w w' : World) (G G' : Nat → Prop) : Prop where
  os : w'.os = w.os
  tape : w'.tape = w.tape
  output : w'.output = w.output
  size : w.heap.size ≤ w'.heap.size
  keep : ∀ b, b < w.heap.size → ¬ G b → w'.heap[b]? = w.heap[b]?
  new : ∀ b, G' b → G b ∨ w.heap.size ≤ b
theorem WK.refl (w : World) (G : Nat → Prop) : WK w w G G := ⟨rfl, rfl, rfl, Nat.le_refl _, fun _ _ _ => rfl, fun _ h => .inl h⟩
theorem WK.trans {a b c : World} {G G' G'' : Nat → Prop} (h : WK a b G G') (k : WK b c G' G'') : WK a c G G'' :=
  ⟨k.os.trans h.os, k.tape.trans h.tape, k.output.trans h.output, Nat.le_trans h.size k.size, fun i hi hg => (k.keep i (Nat.lt_of_lt_of_le hi h.size) (fun hg' => (h.new i hg').elim hg (fun h2 => by omega))).trans (h.keep i hi hg),
    fun i hi => (k.new i hi).elim (fun h2 => h.new i h2) (fun h2 => .inr (Nat.le_trans h.size h2))⟩
theorem WK.of_below {w w' : World} (G : Nat → Prop) (h : Below w.heap.size w w') : WK w w' G G := ⟨h.os, h.tape, h.output, h.size, fun b hb _ => h.block b hb, fun _ h => .inl h⟩
theorem WK.below {w w' : World} {G G' : Nat → Prop} {Z : Nat} (h : WK w w' G G') (hg : ∀ b, G b → Z ≤ b) (hz : Z ≤ w.heap.size) : Below Z w w' :=
  ⟨h.os, h.tape, h.output, h.size, fun b hb => h.keep b (Nat.lt_of_lt_of_le hb hz) (fun hgb => by have := hg b hgb; omega)⟩
theorem WK.cell {w w' : World} {G G' : Nat → Prop} (h : WK w w' G G') {b o : Nat} {v : Value} (hb : b < w.heap.size) (hg : ¬ G b) (hc : w.cell? ⟨b, o, none⟩ = some v) : w'.cell? ⟨b, o, none⟩ = some v :=
  (World.cell?_of_block (w := w) (a := ⟨b, o, none⟩) (h.keep b hb hg)).trans hc
/-- A writer: its struct in block bw, its two rows; G tells their blocks. -/
structure WrR (w : World) (Z bm sb N bw : Nat) (G : Nat → Prop) (vw vk : Value) (ws : List (Int × Int)) : Prop where
  st : w.heap[bw]? = some (.cells #[.map (some bm), .slice (some ⟨sb, 0, none⟩) N N, vw, vk] 98 (0, 0))
  words : w.ownsRow Z 50 1 vw ws.length (ws.map fun p => .int .u32 p.1)
  kinds : w.ownsRow Z 3 1 vk ws.length (ws.map fun p => .int .i64 p.2)
  wk : ∀ b, vw.ownBlock = some b → vk.ownBlock ≠ some b
  ww : vw.ownBlock ≠ some bw
  kw : vk.ownBlock ≠ some bw
  g : ∀ b, G b ↔ b = bw ∨ vw.ownBlock = some b ∨ vk.ownBlock = some b
  z : Z ≤ bw
theorem WrR.lt {w : World} {Z bm sb N bw : Nat} {G : Nat → Prop} {vw vk : Value} {ws : List (Int × Int)} (h : WrR w Z bm sb N bw G vw vk ws) {b : Nat} (hb : G b) : Z ≤ b ∧ b < w.heap.size := by
  rcases (h.g b).1 hb with rfl | h1 | h1
  · exact ⟨h.z, lt_of_block h.st⟩
  · exact h.words.lt b h1
  · exact h.kinds.lt b h1
theorem own_keep {w w' : World} {B : Nat} {e : TypeId} {v : Value} {n : Nat} {ys : List Value} (h : w.ownsRow B e 1 v n ys) (hk : ∀ b, v.ownBlock = some b → w'.heap[b]? = w.heap[b]?) : w'.ownsRow B e 1 v n ys := by
  obtain ⟨k1, k2 | ⟨g, cap, cur, rfl, k3, k4, k5⟩⟩ := h
  · exact ⟨k1, .inl k2⟩
  · exact ⟨k1, .inr ⟨g, cap, cur, rfl, k3, (hk g rfl).trans k4, k5⟩⟩
/-- Nothing of a writer is turned by what makes memory alone. -/
theorem WrR.below {w w' : World} {Z bm sb N bw : Nat} {G : Nat → Prop} {vw vk : Value} {ws : List (Int × Int)} (h : WrR w Z bm sb N bw G vw vk ws) (hb : Below w.heap.size w w') : WrR w' Z bm sb N bw G vw vk ws :=
  ⟨(hb.block bw (lt_of_block h.st)).trans h.st, own_keep h.words (fun b hb2 => hb.block b (h.words.lt b hb2).2), own_keep h.kinds (fun b hb2 => hb.block b (h.kinds.lt b hb2).2), h.wk, h.ww, h.kw, h.g, h.z⟩
def PutPost (Z bm sb N bw : Nat) (G : Nat → Prop) (ws : List (Int × Int)) (w : World) (e : Ending) (w' : World) : Prop :=
  e = .returned (.tuple #[]) ∧ ∃ G' vw vk, WrR w' Z bm sb N bw G' vw vk ws ∧ WK w w' G G'
set_option maxHeartbeats 4000000 in
set_option maxRecDepth 100000 in
theorem put_prog (Z bm sb N bw : Nat) (G : Nat → Prop) (vw vk : Value) (ws : List (Int × Int)) (kind word : Int) (w : World) (h : WrR w Z bm sb N bw G vw vk ws) (hl : ws.length ≤ 100000) (hZ : Z ≤ w.heap.size) :
    Calls Tryz.prog 89 #[.pointer (some ⟨bw, 0, none⟩), .int .i64 kind, .int .u32 word] w (PutPost Z bm sb N bw G (ws ++ [(word, kind)]) w) := by
  have HW := Lib.hid h
  obtain ⟨⟨_, _, c2, c3⟩, _, _, f2, f3⟩ := four h.st
  have hlt := lt_of_block h.st
  clear h
  go_enter Tryz.func89, Tryz.ntmps89
  go_upto_region 1 with (at_builtin; refine wpList_append_cell rfl (.tmp 10) (.tmp 12) 34 50 (.int .u32 0) 4 rfl Tryz.underlying34 info_wordA rfl (by omega) Z vw ws.length (ws.map fun p => .int .u32 p.1) rfl (HW.out.words.alloc _) (by simp; omega) (.int .u32 word) rfl w.heap.size 1 rfl (by go_simp) (by omega) ?_
                         intro g1 cap1 w1 h1 h2 h3
                         have hs1 := (h2.block bw (by simp; omega) (fun e => HW.out.ww e.symm)).trans ((Below.heap_alloc w _ _ hlt).trans HW.out.st)
                         obtain ⟨⟨_, _, d2, d3⟩, _, _, e2, e3⟩ := four hs1
                         have hl1 := lt_of_block hs1
                         have H1 := Lib.hid h1; have H2 := Lib.hid h2; have H3 := Lib.hid h3; have HS1 := Lib.hid hs1; clear h1 h2 h3 hs1)
  have HS2 := Lib.hid (heap_setCell_same _ bw 2 _ _ (.slice (some ⟨g1, 0, none⟩) (ws.length + 1) cap1) HS1.out)
  have hs2 := HS2.out
  have HK2 := Lib.hid (show (w1.setCell ⟨bw, 2, none⟩ (.slice (some ⟨g1, 0, none⟩) (ws.length + 1) cap1)).ownsRow Z 3 1 vk ws.length (ws.map fun p => .int .i64 p.2) from own_keep HW.out.kinds (fun b hb => by
    have hbl := (HW.out.kinds.lt b hb).2
    have hbw : b ≠ bw := fun e => HW.out.kw (by rw [hb, e])
    rw [Below.heap_setCell _ _ _ _ hbw, H2.out.block b (by simp; omega) (fun e => HW.out.wk b e.symm hb), Below.heap_alloc _ _ _ hbl]))
  have HWR := Lib.hid (show (w1.setCell ⟨bw, 2, none⟩ (.slice (some ⟨g1, 0, none⟩) (ws.length + 1) cap1)).ownsRow Z 50 1 (.slice (some ⟨g1, 0, none⟩) (ws.length + 1) cap1) (ws.length + 1) ((ws.map fun p => .int .u32 p.1) ++ [.int .u32 word]) from own_keep H1.out (fun b hb => by
    have e : some g1 = some b := hb
    injection e with e
    subst e
    have hbw : g1 ≠ bw := fun e => by
      rcases H3.out with h | h
      · exact HW.out.ww (by rw [h, e])
      · simp at h; omega
    rw [Below.heap_setCell _ _ _ _ hbw]))
  have HK1 := Lib.hid (show WK w (w1.setCell ⟨bw, 2, none⟩ (.slice (some ⟨g1, 0, none⟩) (ws.length + 1) cap1)) G (fun b => b = bw ∨ b = g1 ∨ vk.ownBlock = some b) from by
    have hsz := H2.out.size
    refine ⟨H2.out.os, H2.out.tape, H2.out.output, by simp at hsz ⊢; omega, fun b hb hg => ?_, fun b hb => ?_⟩
    · rw [HW.out.g b] at hg
      rw [Below.heap_setCell _ _ _ _ (fun e => hg (.inl e)), H2.out.block b (by simp; omega) (fun e => hg (.inr (.inl e.symm))), Below.heap_alloc _ _ _ hb]
    · rw [HW.out.g b]
      rcases hb with h | h | h
      · exact .inl (.inl h)
      · subst h
        rcases H3.out with h | h
        · exact .inl (.inr (.inl h))
        · right; simp at h; omega
      · exact .inl (.inr (.inr h)))
  have hg1 := HWR.out.lt g1 rfl
  have hzz := HK1.out.size
  clear c2 c3 f2 f3 d2 d3 e2 e3
  obtain ⟨⟨_, _, c2, c3⟩, _, _, f2, f3⟩ := four hs2
  have hlt2 := lt_of_block hs2
  clear hs2
  generalize w1.setCell ⟨bw, 2, none⟩ (.slice (some ⟨g1, 0, none⟩) (ws.length + 1) cap1) = W at *
  go_wp2_with (at_builtin; refine wpList_append_cell rfl (.tmp 20) (.tmp 22) 35 3 (.int .i64 0) 8 rfl Tryz.underlying35 info_intA rfl (by omega) Z vk ws.length (ws.map fun p => .int .i64 p.2) rfl (HK2.out.alloc _) (by simp; omega) (.int .i64 kind) rfl W.heap.size 1 rfl (by go_simp) (by omega) ?_
               intro g2 cap2 w2 h1 h2 h3
               have hs1 := (h2.block bw (by simp; omega) (fun e => HW.out.kw e.symm)).trans ((Below.heap_alloc W _ _ hlt2).trans HS2.out)
               obtain ⟨⟨_, _, d2, d3⟩, _, _, e2, e3⟩ := four hs1
               have hl2 := lt_of_block hs1
               have J1 := Lib.hid h1; have J2 := Lib.hid h2; have J3 := Lib.hid h3; have JS1 := Lib.hid hs1; clear h1 h2 h3 hs1)
  have hs3 := heap_setCell_same _ bw 3 _ _ (.slice (some ⟨g2, 0, none⟩) (ws.length + 1) cap2) JS1.out
  have e1 : (ws ++ [(word, kind)]).length = ws.length + 1 := by simp
  have e2 : (ws ++ [(word, kind)]).map (fun p => Value.int .u32 p.1) = (ws.map fun p => .int .u32 p.1) ++ [.int .u32 word] := by simp
  have e3 : (ws ++ [(word, kind)]).map (fun p => Value.int .i64 p.2) = (ws.map fun p => .int .i64 p.2) ++ [.int .i64 kind] := by simp
  have hg2bw : g2 ≠ bw := fun e => by
    rcases J3.out with h | h
    · exact HW.out.kw (by rw [h, e])
    · simp at h; omega
  have hg1bw : g1 ≠ bw := fun e => by
    rcases H3.out with h | h
    · exact HW.out.ww (by rw [h, e])
    · simp at h; omega
  have hg1k : vk.ownBlock ≠ some g1 := fun e => by
    rcases H3.out with h | h
    · exact HW.out.wk g1 h e
    · have := (HW.out.kinds.lt g1 e).2; simp at h; omega
  have hg12 : g1 ≠ g2 := fun e => by
    rcases J3.out with h | h
    · exact hg1k (by rw [h, e])
    · simp at h; omega
  have hJs := J2.out.size
  go_end0
  refine ⟨rfl, (fun b => b = bw ∨ b = g1 ∨ b = g2), .slice (some ⟨g1, 0, none⟩) (ws.length + 1) cap1, .slice (some ⟨g2, 0, none⟩) (ws.length + 1) cap2, ⟨hs3, ?_, ?_, ?_, ?_, ?_, ?_, HW.out.z⟩, ?_⟩
  · rw [e1, e2]
    refine own_keep HWR.out (fun b hb => ?_)
    have e : some g1 = some b := hb
    injection e with e
    subst e
    rw [Below.heap_setCell _ _ _ _ hg1bw, J2.out.block g1 (by simp; omega) (fun e => hg1k e.symm), Below.heap_alloc _ _ _ hg1.2]
  · rw [e1, e3]
    refine own_keep J1.out (fun b hb => ?_)
    have e : some g2 = some b := hb
    injection e with e
    subst e
    rw [Below.heap_setCell _ _ _ _ hg2bw]
  · intro b hb hb2
    have e : some g1 = some b := hb
    have e' : some g2 = some b := hb2
    injection e with e
    injection e' with e'
    omega
  · exact fun e => hg1bw (by injection e)
  · exact fun e => hg2bw (by injection e)
  · intro b
    refine ⟨?_, ?_⟩
    · rintro (h | h | h)
      · exact .inl h
      · exact .inr (.inl (by rw [h]; rfl))
      · exact .inr (.inr (by rw [h]; rfl))
    · rintro (h | h | h)
      · exact .inl h
      · have e : some g1 = some b := h
        injection e with e; exact .inr (.inl e.symm)
      · have e : some g2 = some b := h
        injection e with e; exact .inr (.inr e.symm)
  · refine HK1.out.trans ⟨J2.out.os, J2.out.tape, J2.out.output, by simp at hJs ⊢; omega, fun b hb hg => ?_, fun b hb => ?_⟩
    · rw [Below.heap_setCell _ _ _ _ (fun e => hg (.inl e)), J2.out.block b (by simp; omega) (fun e => hg (.inr (.inr e.symm))), Below.heap_alloc _ _ _ hb]
    · rcases hb with h | h | h
      · exact .inl (.inl h)
      · exact .inl (.inr (.inl h))
      · subst h
        rcases J3.out with h | h
        · exact .inl (.inr (.inr h))
        · right; simp at h; omega
end Go.Proofs.YthojmbljlehpbaaGreatDoor.Relax
