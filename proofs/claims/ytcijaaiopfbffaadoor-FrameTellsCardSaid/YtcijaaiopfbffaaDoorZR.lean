/- What tell does. No condition. -/
import Derived.Test.YtcijaaiopfbffaaDoorZq
import Derived.Sort.QuietIn
namespace Go.Proofs.YtcijaaiopfbffaaDoor.Live
open Go.RowKit Go.Proofs.YtcijaaiopfbffaaDoor.Graph

/-- What one block tells others. -/
def TellPost (g : PGr) (n wd : Nat) (U S : Nat → Nat) (A : Nat → List Nat) (N F : Nat → Nat) (r : List Nat) (sb nb fb db : Nat) (va : Value) (B : Nat) (v : Value) (w : World) (e : Ending) (w' : World) : Prop :=
  ∃ v' N' F' Q', e = .returned v' ∧ w'.ownsRow B 3 1 v' (Q' : List Nat).length (Q'.map iN) ∧ NdSt sb nb fb db n va N' F' S w' ∧ Sp g n wd U S A N' F' (r ++ Q') (fun _ _ _ => False) ∧ tl N F n < tl N' F' n ∧ TellK nb fb v.ownBlock w w' ∧ (v'.ownBlock = v.ownBlock ∨ ∀ g, v'.ownBlock = some g → w.heap.size ≤ g)
set_option maxHeartbeats 8000000 in
set_option maxRecDepth 100000 in
theorem tell_any {w0 w : World} {g : PGr} {n wd : Nat} {U S : Nat → Nat} {A : Nat → List Nat} {N F : Nat → Nat} {sb nb fb db B b : Nat} {va v : Value} {r Q : List Nat} (hx : Fx g n wd U S A) (hA : AhR w0 va n A) (h : NdSt sb nb fb db n va N F S w) (hw0 : Below w0.heap.size w0 w)
    (h0 : w0.heap.size ≤ nb ∧ w0.heap.size ≤ fb) (hB : (sb < B ∧ nb < B ∧ fb < B ∧ db < B) ∧ w0.heap.size ≤ B ∧ B ≤ w.heap.size) (hs : Sp g n wd U S A N F (b :: (r ++ Q)) fun _ _ _ => False) (hv : w.ownsRow B 3 1 v Q.length (Q.map iN)) (hn : n ≤ 20000) :
    Calls Tryd.prog 75 #[.pointer (some ⟨sb, 0, none⟩), .int .i64 (b : Nat), v] w (TellPost g n wd U S A N F r sb nb fb db va B v w) := by
  obtain ⟨ab, rfl, hab, hA⟩ := hA
  obtain ⟨hs1, htl, hb, hneed⟩ := hs.begin
  obtain ⟨vr, hcr, hir⟩ := hA b hb
  have HIR := Lib.hid hir
  obtain ⟨rp, rc, rfl⟩ := hir.form
  obtain ⟨m, hm⟩ : ∃ m, m = (A b).length := ⟨_, rfl⟩
  rw [List.length_map, ← hm] at HIR hcr
  have HM := Lib.hid hm
  have c1 : w.cell? ⟨sb, 1, none⟩ = some (.slice (some ⟨fb, 0, none⟩) n n) := by simp [World.cell?, h.box]
  have cf := h.fr.cell hb
  have ff := h.fr.frozen b
  have hbi : (b : Int) < n := by omega
  have hb0 : (0 : Int) ≤ b := by omega
  have hni : (n : Int) ≤ 20000 := by omega
  have HX := Lib.hid hx
  have HN1 : Hid (NdSt sb nb fb db n (.slice (some ⟨ab, 0, none⟩) n n) N (put1 F b 0) S (w.setCell ⟨fb, b, none⟩ (.int .u64 0))) := Lib.hid (h.setF (b := b) 0)
  have HT1 : Hid (TellK nb fb v.ownBlock w (w.setCell ⟨fb, b, none⟩ (.int .u64 0))) := Lib.hid (TellK.setF nb fb b v.ownBlock w _)
  have hvb : ∀ q, v.ownBlock = some q → B ≤ q ∧ q < w.heap.size := hv.lt
  have HVB := Lib.hid hvb
  have HV1 : Hid ((w.setCell ⟨fb, b, none⟩ (.int .u64 0)).ownsRow B 3 1 v Q.length (Q.map iN)) := Lib.hid (own_set hv hB.1.2.2.1 b _)
  have HS1 := Lib.hid hs1
  have HTL := Lib.hid htl
  have HNE := Lib.hid hneed
  have HB := Lib.hid hB
  have H0 := Lib.hid h0
  have HW0 := Lib.hid hw0
  have HA := Lib.hid hA
  have hF : F b < w64 := Nat.lt_of_le_of_lt (le_of_and (hs.sub b)) (hs.nl b)
  have HF := Lib.hid hF
  clear hx hA h hw0 h0 hB hs hv hs1 htl hneed hir hm hvb hF
  go_enter Tryd.func75, Tryd.ntmps75
  go_upto_region 3 with (fail)
  clear c1 cf ff
  generalize w.setCell ⟨fb, b, none⟩ (.int .u64 0) = w1 at HN1 HT1 HV1 ⊢
  have HVW : Hid (∀ q, v.ownBlock = some q → w0.heap.size ≤ q) := Lib.hid (fun q hq => Nat.le_trans HB.out.2.1 (HVB.out q hq).1)
  have hb1 := HT1.out.below HW0.out H0.out.1 H0.out.2 HVW.out
  have c3 : w1.cell? ⟨sb, 3, none⟩ = some (.slice (some ⟨ab, 0, none⟩) n n) := by simp [World.cell?, HN1.out.box]
  have cr := (hb1.cell (p := ⟨ab, b, none⟩) hab).trans hcr
  clear hb1
  go_wp2
  clear c3 cr hcr
  go_loopw [2, 32] (fun others i wr => ∃ (k : Nat) (N' F' : Nat → Nat) (Q' : List Nat), k ≤ m ∧ i = .int .i64 k ∧ Hid (wr.ownsRow B 3 1 others Q'.length (Q'.map iN)) ∧ Hid (NdSt sb nb fb db n (.slice (some ⟨ab, 0, none⟩) n n) N' F' S wr) ∧ Hid (Sp g n wd U S A N' F' (r ++ Q') (Left A b (F b) k)) ∧ Hid (tl N F n < tl N' F' n) ∧ Hid (TellK nb fb v.ownBlock w wr) ∧ Hid (others.ownBlock = v.ownBlock ∨ ∀ q, others.ownBlock = some q → w.heap.size ≤ q)) (fun _ i _ => m - (intOf i).toNat)
  case atStart => exact ⟨0, N, put1 F b 0, Q, Nat.zero_le _, rfl, HV1, HN1, HS1, HTL, HT1, Lib.hid (.inl rfl)⟩
  case round =>
    obtain ⟨k, N', F', Q', hk, rfl, HV, HN, HS, HL, HT, HO⟩ := hrel
    by_cases hkm : k < m
    · obtain ⟨a, ha⟩ : ∃ a, (A b)[k]? = some a := ⟨_, List.getElem?_eq_getElem (by have := HM.out; omega)⟩
      have han : a < n := by
        obtain ⟨blk, hblk, _⟩ := (HX.out.a b hb a).1 (List.mem_of_getElem? ha)
        rw [HX.out.len]; exact (List.getElem?_eq_some_iff.1 hblk).1
      have HBW : Hid (Below w0.heap.size w0 wr) := Lib.hid (HT.out.below HW0.out H0.out.1 H0.out.2 HVW.out)
      obtain ⟨gr, og, cr3, hva, hcap, hgr, hP⟩ := SlR.form2 HIR.out (by rw [List.length_map, ← HM.out]; omega)
      injection hva with e1 e2 e3
      clear e2
      have hPk := hP k (by rw [List.length_map, ← HM.out]; omega) (a : Int) (by rw [List.getElem?_map, ha]; rfl)
      rw [Nat.mul_one] at hPk
      have hrow := (HBW.out.cell (p := ⟨gr, og + k, none⟩) hgr).trans hPk
      obtain ⟨m1, m2⟩ := hcap
      rw [List.length_map, ← HM.out] at m1
      have ki : (k : Int) < m := by omega
      have k0 : (0 : Int) ≤ k := by omega
      have ki2 : (m : Int) ≤ rc := by omega
      have ki3 : (rc : Int) ≤ 9223372036854775807 := by omega
      have a0 : (0 : Int) ≤ a := by omega
      have ai : (a : Int) < n := by omega
      have HA2 := Lib.hid ha
      have c0 : wr.cell? ⟨sb, 0, none⟩ = some (.slice (some ⟨nb, 0, none⟩) n n) := by simp [World.cell?, HN.out.box]
      have c2 : wr.cell? ⟨sb, 2, none⟩ = some (.slice (some ⟨db, 0, none⟩) n n) := by simp [World.cell?, HN.out.box]
      have cN := HN.out.nr.cell han
      have cS := HN.out.sr.cell han
      have e5 := bits_andNot (F b) (S a) HF.out (HX.out.sl a)
      have e6 := bits_andNot (andN (F b) (S a)) (N' a) (andN_lt _ HF.out) (HS.out.nl a)
      have HFL : Hid (andN (andN (F b) (S a)) (N' a) < w64) := Lib.hid (andN_lt _ (andN_lt _ HF.out))
      have HFB : Hid (∀ i, (andN (andN (F b) (S a)) (N' a)).testBit i = ((F b).testBit i && !(S a).testBit i && !(N' a).testBit i)) := Lib.hid (fun i => by rw [andN_bit, andN_bit])
      subst e1
      clear hP hPk m1 m2 hgr e3 ha
      go_upto_region 6 with (fail)
      go_cut [10] from 36 to 52 (fun v wq => v = .int .u64 ((andN (andN (F b) (S a)) (N' a) : Nat) : Int) ∧ Hid (Below wr.heap.size wr wq))
      case first =>
        go_quiet (fail)
        go_wp2
        go_meet
        exact ⟨by first | rfl | rw [e5, e6], Lib.hid (Graph.below_drewN wr _)⟩
      case rest =>
        obtain ⟨rfl, HQ⟩ := hcut
        clear e5 e6 c0 c2 cN cS hrow
        generalize andN (andN (F b) (S a)) (N' a) = f at HFL HFB ⊢
        have HVq := Lib.hid (own_below HV.out HQ.out)
        have HNq := Lib.hid (HN.out.below HQ.out)
        have HTq : Hid (TellK nb fb v.ownBlock w wc) := Lib.hid (HT.out.trans (TellK.of_below none HQ.out) (.inr (fun q hq => by cases hq)))
        clear HQ HBW
        by_cases f0 : f = 0
        · have HSK : Hid (Sp g n wd U S A N' F' (r ++ Q') (Left A b (F b) (k + 1))) := Lib.hid (HS.out.skip HA2.out (fun i hi => by
            have h2 := HFB.out i
            rw [f0, Nat.zero_testBit, hi] at h2
            cases h3 : (N' a).testBit i
            · cases h4 : (S a).testBit i
              · rw [h3, h4] at h2; cases h2
              · exact .inr rfl
            · exact .inl rfl))
          have f1 : ((f : Nat) : Int) = 0 := by omega
          go_wp2
          exact ⟨⟨k + 1, N', F', Q', by omega, by go_num, HVq, HNq, HSK, HL, HTq, HO⟩, by simp [intOf]; omega⟩
        · have hF2 : F' a < w64 := Nat.lt_of_le_of_lt (le_of_and (HS.out.sub a)) (HS.out.nl a)
          have hN2 := HS.out.nl a
          obtain ⟨_, hS2, htl2⟩ := HS.out.tell HX.out HA2.out hb HNE.out HFL.out HFB.out f0
          have HTL2 : Hid (tl N F n < tl (put1 N' a (N' a ||| f)) (put1 F' a (F' a ||| f)) n) := Lib.hid (by rw [htl2]; exact HL.out)
          have HS2 := Lib.hid hS2
          have HLEN : Hid (Q'.length ≤ 20000) := Lib.hid (by have := HS.out.len; rw [List.length_append] at this; omega)
          have f1 : ((f : Nat) : Int) ≠ 0 := by omega
          have c1 : wc.cell? ⟨sb, 1, none⟩ = some (.slice (some ⟨fb, 0, none⟩) n n) := by simp [World.cell?, HNq.out.box]
          have cF := HNq.out.fr.cell han
          have e7 := bits_or_u64_nat (F' a) f hF2 HFL.out
          have e8 := bits_or_u64_nat (N' a) f hN2 HFL.out
          clear hS2 htl2 hF2 hN2
          go_upto_if 62 with (fail)
          go_cut [2] from 36 to 66 (fun o wq => ∃ Q2 : List Nat, Hid (Q2 = if F' a = 0 then Q' ++ [a] else Q') ∧ Hid (wq.ownsRow B 3 1 o Q2.length (Q2.map iN)) ∧ Hid (NdSt sb nb fb db n (.slice (some ⟨ab, 0, none⟩) n n) N' F' S wq) ∧ Hid (TellK nb fb v.ownBlock w wq) ∧ Hid (o.ownBlock = v.ownBlock ∨ ∀ q, o.ownBlock = some q → w.heap.size ≤ q))
          case first =>
            by_cases z : F' a = 0
            · have z1 : ((F' a : Nat) : Int) = 0 := by omega
              obtain ⟨i0, hi, hz0, hz1, hz2⟩ := info_parts info_int
              have HI := Lib.hid hi
              have HV3 := Lib.hid (own_below HVq.out (Graph.below_alloc wc (.cells #[.int .i64 (a : Int)] 3)))
              have HN3 := Lib.hid (HNq.out.below (Graph.below_alloc wc (.cells #[.int .i64 (a : Int)] 3)))
              have HT3 : Hid (TellK nb fb v.ownBlock w (wc.alloc (.cells #[.int .i64 (a : Int)] 3))) := Lib.hid (HTq.out.trans (TellK.of_below none (Graph.below_alloc wc _)) (.inr (fun q hq => by cases hq)))
              have HNW := Lib.hid (news_one (w := wc) (x := (a : Int)) (H := wc.heap.size) (t := 3) rfl)
              have HBS : Hid (B ≤ (wc.alloc (.cells #[.int .i64 (a : Int)] 3)).heap.size) := Lib.hid (by have := HT3.out.size; have := HB.out.2.2; omega)
              clear hi
              go_wp2_with (
                at_builtin
                go_loud (refine wpList_append_lies _ (by rfl) _ _ 22 (by rfl) B 3 i0 _ 1 8 Tryd.underlying22 HI.out hz0 hz1 hz2 rfl (by omega) _ Q'.length _ (by rfl) HV3.out ⟨wc.heap.size, 0, none⟩ 1 1 [.int .i64 (a : Int)] (by rfl) rfl HNW.out (by simp [Value.oneCell']) (by omega) (by unfold maxLen; have := HLEN.out; omega) (by have := HLEN.out; omega) HBS.out _ rfl ?_)
                intro g5 c5 w7 h5 h6 h7 h8
                have H5 := Lib.hid h5
                have H6 := Lib.hid h6
                have H7 := Lib.hid h7
                clear h5 h6 h7 h8)
              go_meet
              refine ⟨Q' ++ [a], Lib.hid (by rw [if_pos z]), Lib.hid (by rw [List.length_append, List.map_append]; exact H5.out), Lib.hid (HN3.out.grown H6.out (fun q hq => (HVq.out.lt q hq).1) HB.out.1), Lib.hid (HT3.out.trans (TellK.grown H6.out) HO.out), Lib.hid ?_⟩
              rcases H7.out with h7 | h7
              · rcases HO.out with h9 | h9
                · exact .inl (by rw [← h9, h7]; rfl)
                · exact .inr (fun q hq => h9 q (by rw [h7]; exact hq))
              · refine .inr (fun q hq => ?_)
                injection hq with hq
                have := HT3.out.size
                simp only at hq
                omega
            · have z1 : ((F' a : Nat) : Int) ≠ 0 := by omega
              go_wp2
              go_meet
              exact ⟨Q', Lib.hid (by rw [if_neg z]), HVq, HNq, HTq, HO⟩
          case rest =>
            obtain ⟨Q2, HQ2, HV2, HN2, HT2, HO2⟩ := hcut
            clear c1 cF HVq HNq HTq
            have HS3 : Hid (Sp g n wd U S A (put1 N' a (N' a ||| f)) (put1 F' a (F' a ||| f)) (r ++ Q2) (Left A b (F b) (k + 1))) := Lib.hid (by
              have h := HS2.out
              rw [HQ2.out]
              by_cases z : F' a = 0
              · rw [if_pos z] at h ⊢; rw [← List.append_assoc]; exact h
              · rw [if_neg z] at h ⊢; exact h)
            have c1 : wc.cell? ⟨sb, 1, none⟩ = some (.slice (some ⟨fb, 0, none⟩) n n) := by simp [World.cell?, HN2.out.box]
            have cF := HN2.out.fr.cell han
            have fF := HN2.out.fr.frozen a
            have HN3 := Lib.hid (HN2.out.setF (b := a) (F' a ||| f))
            have HV3 := Lib.hid (own_set HV2.out HB.out.1.2.2.1 a (.int .u64 ((F' a ||| f : Nat) : Int)))
            have HT3 : Hid (TellK nb fb v.ownBlock w (wc.setCell ⟨fb, a, none⟩ (.int .u64 ((F' a ||| f : Nat) : Int)))) := Lib.hid (HT2.out.trans (TellK.setF nb fb a none wc _) (.inr (fun q hq => by cases hq)))
            clear HS2 HQ2 HN2 HV2 HT2
            go_upto_region 11 with (fail)
            generalize wc.setCell ⟨fb, a, none⟩ (.int .u64 ((F' a ||| f : Nat) : Int)) = w8 at HN3 HV3 HT3 ⊢
            clear c1 cF fF e7
            have c0 : w8.cell? ⟨sb, 0, none⟩ = some (.slice (some ⟨nb, 0, none⟩) n n) := by simp [World.cell?, HN3.out.box]
            have cN := HN3.out.nr.cell han
            have fN := HN3.out.nr.frozen a
            have HN4 := Lib.hid (HN3.out.setN (b := a) (N' a ||| f))
            have HV4 := Lib.hid (own_set HV3.out HB.out.1.2.1 a (.int .u64 ((N' a ||| f : Nat) : Int)))
            have HT4 : Hid (TellK nb fb v.ownBlock w (w8.setCell ⟨nb, a, none⟩ (.int .u64 ((N' a ||| f : Nat) : Int)))) := Lib.hid (HT3.out.trans (TellK.setN nb fb a none w8 _) (.inr (fun q hq => by cases hq)))
            clear HN3 HV3 HT3
            go_wp2
            exact ⟨⟨k + 1, put1 N' a (N' a ||| f), put1 F' a (F' a ||| f), Q2, by omega, by go_num, HV4, HN4, HS3, HTL2, HT4, HO2⟩, by simp [intOf]; omega⟩
    · obtain rfl : k = m := by omega
      have hki : ¬ ((k : Int) < k) := by omega
      have HSD := Lib.hid (Sp.done (by rw [← HM.out]; exact HS.out))
      go_wp2
      go_ret
      exact ⟨_, N', F', Q', rfl, HV.out, HN.out, HSD.out, HL.out, HT.out, HO.out⟩
end Go.Proofs.YtcijaaiopfbffaaDoor.Live
namespace Go.Proofs.YtcijaaiopfbffaaDoor.Live
open Go.RowKit Go.Proofs.YtcijaaiopfbffaaDoor.Graph

/-- The words of a row, read off the world. -/
def wordsAt (w : World) (g : Nat) : Nat → Nat := fun b => match w.cell? ⟨g, b, none⟩ with | some (.int _ x) => x.toNat | _ => 0
theorem words_of {w : World} {g n : Nat} {U : Nat → Nat} (h : WRow w g n U) {b : Nat} (hb : b < n) : wordsAt w g b = U b := by
  unfold wordsAt; rw [h.cell hb]; exact Int.toNat_natCast _
theorem tl_at {w : World} {sb nb fb db n : Nat} {va : Value} {N F S : Nat → Nat} (h : NdSt sb nb fb db n va N F S w) : tl (wordsAt w nb) (wordsAt w fb) n = tl N F n :=
  Nat.le_antisymm (tot_le fun k hk => by rw [words_of h.nr hk, words_of h.fr hk]; exact Nat.le_refl _) (tot_le fun k hk => by rw [words_of h.nr hk, words_of h.fr hk]; exact Nat.le_refl _)
theorem own_tell {w w' : World} {B nb fb n : Nat} {e : TypeId} {v : Value} {xs : List Value} {row : Option Nat} (h : w.ownsRow B e 1 v n xs) (hT : TellK nb fb row w w') (h1 : nb < B) (h2 : fb < B) (hne : ∀ q, v.ownBlock = some q → row ≠ some q) : w'.ownsRow B e 1 v n xs := by
  obtain ⟨h3, h | ⟨g, cap, cur, rfl, hB, hg, h4⟩⟩ := h
  · exact ⟨h3, .inl h⟩
  · exact ⟨h3, .inr ⟨g, cap, cur, rfl, hB, (hT.block g (Array.getElem?_eq_some_iff.1 hg).1 (by omega) (by omega) (hne g rfl)).trans hg, h4⟩⟩
/-- Those that have something to tell at the beginning. -/
def firstQ (U : Nat → Nat) (k : Nat) : List Nat := (List.range k).filter fun b => U b != 0
theorem firstQ_mem (U : Nat → Nat) (n b : Nat) : b ∈ firstQ U n ↔ b < n ∧ U b ≠ 0 := by
  unfold firstQ; rw [List.mem_filter, List.mem_range]; simp
theorem firstQ_nd (U : Nat → Nat) (n : Nat) : (firstQ U n).Nodup := List.Pairwise.filter _ List.nodup_range
theorem firstQ_len (U : Nat → Nat) (n : Nat) : (firstQ U n).length ≤ n := by
  have := List.length_filter_le (fun b => U b != 0) (List.range n)
  rwa [List.length_range] at this
theorem firstQ_succ (U : Nat → Nat) (k : Nat) : firstQ U (k + 1) = if U k = 0 then firstQ U k else firstQ U k ++ [k] := by
  unfold firstQ
  rw [List.range_succ, List.filter_append]
  by_cases h : U k = 0
  · rw [if_pos h]; simp [h]
  · rw [if_neg h]; simp [h]
def SpreadPost (g : PGr) (n wd : Nat) (S : Nat → Nat) (sb nb fb db : Nat) (va : Value) (w : World) (e : Ending) (w' : World) : Prop :=
  e = .returned (.tuple #[]) ∧ ∃ N F, NdSt sb nb fb db n va N F S w' ∧ (∀ b i, b < n → i < 64 → ((N b).testBit i = true ↔ Need g b ((64 * wd + i : Nat) : Int))) ∧ (∀ b, N b < w64) ∧ TellK nb fb none w w'
set_option maxHeartbeats 8000000 in
set_option maxRecDepth 100000 in
theorem spread_any {w0 w : World} {g : PGr} {n wd : Nat} {U S : Nat → Nat} {A : Nat → List Nat} {sb nb fb db : Nat} {va : Value} (hx : Fx g n wd U S A) (hA : AhR w0 va n A) (h : NdSt sb nb fb db n va U U S w) (hw0 : Below w0.heap.size w0 w)
    (h0 : w0.heap.size ≤ nb ∧ w0.heap.size ≤ fb) (hn : n ≤ 20000) :
    Calls Tryd.prog 55 #[.pointer (some ⟨sb, 0, none⟩)] w (SpreadPost g n wd S sb nb fb db va w) := by
  obtain ⟨B, hB⟩ : ∃ B, B = w.heap.size := ⟨_, rfl⟩
  have HB : Hid ((sb < B ∧ nb < B ∧ fb < B ∧ db < B) ∧ w0.heap.size ≤ B) := Lib.hid (by rw [hB]; exact ⟨⟨(Array.getElem?_eq_some_iff.1 h.box).1, h.nr.lt, h.fr.lt, h.sr.lt⟩, hw0.size⟩)
  have HBW := Lib.hid hB
  have c1 : w.cell? ⟨sb, 1, none⟩ = some (.slice (some ⟨fb, 0, none⟩) n n) := by simp [World.cell?, h.box]
  have hni : (n : Int) ≤ 20000 := by omega
  have HX := Lib.hid hx
  have HA := Lib.hid hA
  have HN0 := Lib.hid h
  have HW0 := Lib.hid hw0
  have H0 := Lib.hid h0
  have HNL := Lib.hid hn
  clear hx hA h hw0 h0 hB
  go_enter Tryd.func55, Tryd.ntmps55
  go_wp2
  clear c1
  go_loopw [2, 12] (fun work i wr => ∃ k : Nat, k ≤ n ∧ i = .int .i64 k ∧ Hid (wr.ownsRow B 3 1 work (firstQ U k).length ((firstQ U k).map iN)) ∧ Hid (NdSt sb nb fb db n va U U S wr) ∧ Hid (TellK nb fb none w wr)) (fun _ i _ => n - (intOf i).toNat)
  case atStart => exact ⟨0, Nat.zero_le _, rfl, Lib.hid (World.ownsRow_nil _ _ _ _), HN0, Lib.hid (TellK.refl _ _ _ _)⟩
  case round =>
    obtain ⟨k, hk, rfl, HV, HN, HT⟩ := hrel
    have HBS : Hid (B ≤ wr.heap.size) := Lib.hid (by have := HT.out.size; have := HBW.out; omega)
    by_cases hkn : k < n
    · have ki : (k : Int) < n := by omega
      have k0 : (0 : Int) ≤ k := by omega
      have c1 : wr.cell? ⟨sb, 1, none⟩ = some (.slice (some ⟨fb, 0, none⟩) n n) := by simp [World.cell?, HN.out.box]
      have cF := HN.out.fr.cell hkn
      have HQ := Lib.hid (firstQ_succ U k)
      by_cases z : U k = 0
      · have z1 : ((U k : Nat) : Int) = 0 := by omega
        have HV2 : Hid (wr.ownsRow B 3 1 u2 (firstQ U (k + 1)).length ((firstQ U (k + 1)).map iN)) := Lib.hid (by rw [HQ.out, if_pos z]; exact HV.out)
        go_wp2
        exact ⟨⟨k + 1, by omega, by go_num, HV2, HN, HT⟩, by simp [intOf]; omega⟩
      · have z1 : ((U k : Nat) : Int) ≠ 0 := by omega
        obtain ⟨i0, hi, hz0, hz1, hz2⟩ := info_parts info_int
        have HI := Lib.hid hi
        have HV3 := Lib.hid (own_below HV.out (Graph.below_alloc wr (.cells #[.int .i64 (k : Int)] 3)))
        have HN3 := Lib.hid (HN.out.below (Graph.below_alloc wr (.cells #[.int .i64 (k : Int)] 3)))
        have HT3 : Hid (TellK nb fb none w (wr.alloc (.cells #[.int .i64 (k : Int)] 3))) := Lib.hid (HT.out.trans (TellK.of_below none (Graph.below_alloc wr _)) (.inl rfl))
        have HNW := Lib.hid (news_one (w := wr) (x := (k : Int)) (H := wr.heap.size) (t := 3) rfl)
        have HB3 : Hid (B ≤ (wr.alloc (.cells #[.int .i64 (k : Int)] 3)).heap.size) := Lib.hid (by have := HT3.out.size; have := HBW.out; omega)
        have HLEN : Hid ((firstQ U k).length ≤ 20000) := Lib.hid (by have := firstQ_len U k; omega)
        clear hi
        go_wp2_with (
          at_builtin
          go_loud (refine wpList_append_lies _ (by rfl) _ _ 22 (by rfl) B 3 i0 _ 1 8 Tryd.underlying22 HI.out hz0 hz1 hz2 rfl (by omega) _ (firstQ U k).length _ (by rfl) HV3.out ⟨wr.heap.size, 0, none⟩ 1 1 [.int .i64 (k : Int)] (by rfl) rfl HNW.out (by simp [Value.oneCell']) (by omega) (by unfold maxLen; have := HLEN.out; omega) (by have := HLEN.out; omega) HB3.out _ rfl ?_)
          intro g5 c5 w7 h5 h6 h7 h8
          have H5 := Lib.hid h5
          have H6 := Lib.hid h6
          clear h5 h6 h7 h8)
        exact ⟨⟨k + 1, by omega, by go_num, Lib.hid (by rw [HQ.out, if_neg z, List.length_append, List.map_append]; exact H5.out), Lib.hid (HN3.out.grown H6.out (fun q hq => (HV.out.lt q hq).1) HB.out.1), Lib.hid (HT3.out.trans (TellK.grown H6.out) (.inr (fun q hq => by have := (HV.out.lt q hq).1; have := HBW.out; omega)))⟩, by simp [intOf]; omega⟩
    · obtain rfl : k = n := by omega
      have hki : ¬ ((k : Int) < k) := by omega
      have HS := Lib.hid (Sp.start HX.out (firstQ_mem U k) (firstQ_nd U k))
      go_wp2
      go_loopw [2] (fun work wr2 => ∃ (N F : Nat → Nat) (Q : List Nat), Hid (wr2.ownsRow B 3 1 work Q.length (Q.map iN)) ∧ Hid (NdSt sb nb fb db k va N F S wr2) ∧ Hid (Sp g k wd U S A N F Q fun _ _ _ => False) ∧ Hid (TellK nb fb none w wr2)) (fun _ wr2 => k * w64 - tl (wordsAt wr2 nb) (wordsAt wr2 fb) k)
      case atStart => exact ⟨U, U, firstQ U k, HV, HN, HS, HT⟩
      case round =>
        obtain ⟨N, F, Q, HV2, HN2, HS2, HT2⟩ := hrel
        obtain ⟨p2, c2, rfl, hc2⟩ := own_form HV2.out
        obtain ⟨m, hm⟩ : ∃ m, m = Q.length := ⟨_, rfl⟩
        rw [← hm] at HV2 hc2 ⊢
        have HM := Lib.hid hm
        clear hm
        by_cases hm0 : m = 0
        · have HE : Hid (Q = []) := Lib.hid (List.length_eq_zero_iff.1 (HM.out.symm.trans hm0))
          have hm1 : ((m : Nat) : Int) = 0 := by omega
          go_wp2
          go_end0
          exact ⟨rfl, N, F, HN2.out, fun b i hb hi => Sp.all HX.out (by have h := HS2.out; rw [HE.out] at h; exact h) hb hi, HS2.out.nl, HT2.out⟩
        have mi : (0 : Int) < m := by omega
        go_wp2
        have HM0 : Hid (m ≠ 0) := Lib.hid hm0
        clear mi hm0
        generalize decide (0 < m) = z30
        go_loopw [4, 33] (fun next i wr3 => ∃ (j : Nat) (N' F' : Nat → Nat) (Q' : List Nat), j ≤ m ∧ i = .int .i64 j ∧ Hid (wr3.ownsRow B 3 1 next Q'.length (Q'.map iN)) ∧ Hid (NdSt sb nb fb db k va N' F' S wr3) ∧ Hid (Sp g k wd U S A N' F' (Q.drop j ++ Q') fun _ _ _ => False) ∧ Hid (tl N F k + j ≤ tl N' F' k) ∧ Hid (TellK nb fb none w wr3) ∧ Hid (wr3.ownsRow B 3 1 (.slice p2 m c2) m (Q.map iN)) ∧ Hid (∀ q, Value.ownBlock (.slice p2 m c2) = some q → next.ownBlock ≠ some q)) (fun _ i _ => m - (intOf i).toNat)
        case atStart => exact ⟨0, N, F, [], Nat.zero_le _, rfl, Lib.hid (World.ownsRow_nil _ _ _ _), HN2, Lib.hid (by rw [List.drop_zero, List.append_nil]; exact HS2.out), Lib.hid (Nat.le_refl _), HT2, HV2, Lib.hid (fun q _ e => by cases e)⟩
        case round =>
          obtain ⟨j, N', F', Q', hj, rfl, HV3, HN3, HS3, HL3, HT3, HW3, HD3⟩ := hrel
          by_cases hjm : j < m
          · have hjl : j < Q.length := by have := HM.out; omega
            have HSB : Hid (Sp g k wd U S A N' F' (Q[j] :: (Q.drop (j + 1) ++ Q')) fun _ _ _ => False) := Lib.hid (by
              have h := HS3.out
              rw [List.drop_eq_getElem_cons hjl] at h
              exact h)
            obtain ⟨g4, cc4, hv4, ce, _, _, _, q1, q2⟩ := own_cell HW3.out (k := j) (x := iN Q[j]) (by rw [List.getElem?_map, List.getElem?_eq_getElem hjl]; rfl) hjm
            injection hv4 with e1 _ e3
            subst e1 e3
            have j5 : (j : Int) < m := by omega
            have j6 : (0 : Int) ≤ j := by omega
            have j7 : (m : Int) ≤ c2 := by omega
            have j8 : (c2 : Int) ≤ 9223372036854775807 := by omega
            generalize Q[j] = b at HSB ce
            have ce2 : wr.cell? ⟨g4, j, none⟩ = some (.int .i64 (b : Nat)) := ce
            have HTE := Lib.hid (tell_any HX.out HA.out HN3.out (HT3.out.below HW0.out H0.out.1 H0.out.2 (fun q hq => by cases hq)) H0.out ⟨HB.out.1, HB.out.2, by have := HT3.out.size; have := HBW.out; omega⟩ HSB.out HV3.out HNL.out)
            clear ce q1 q2 hjl
            go_wp2_with (go_at_call 75; refine HTE.out.mono ?_; rintro e w4 ⟨v4, N2, F2, Q2, rfl, h1, h2, h3, h4, h5, h6⟩; have H1 := Lib.hid h1; have H2 := Lib.hid h2; have H3 := Lib.hid h3; have H4 := Lib.hid h4; have H5 := Lib.hid h5; have H6 := Lib.hid h6; clear h1 h2 h3 h4 h5 h6)
            exact ⟨⟨j + 1, N2, F2, Q2, by omega, by go_num, H1, H2, H3, Lib.hid (by have := HL3.out; have := H4.out; omega), Lib.hid (HT3.out.trans H5.out (.inr (fun q hq => by have := (HV3.out.lt q hq).1; have := HBW.out; omega))), Lib.hid (own_tell HW3.out H5.out HB.out.1.2.1 HB.out.1.2.2.1 (fun q hq => HD3.out q hq)), Lib.hid (fun q hq e => by
              rcases H6.out with h | h
              · exact HD3.out q hq (h.symm.trans e)
              · have := h q e; have := (HW3.out.lt q hq).2; omega)⟩, by simp [intOf]; omega⟩
          · have hjm2 : j = m := by omega
            have j5 : ¬ ((j : Int) < m) := by omega
            have HS4 : Hid (Sp g k wd U S A N' F' Q' fun _ _ _ => False) := Lib.hid (by
              have h := HS3.out
              rw [hjm2, HM.out, List.drop_length, List.nil_append] at h
              exact h)
            have HME : Hid (∀ wr0 : World, NdSt sb nb fb db k va N F S wr0 → k * w64 - tl (wordsAt wr nb) (wordsAt wr fb) k < k * w64 - tl (wordsAt wr0 nb) (wordsAt wr0 fb) k) := Lib.hid (fun wr0 h0 => by
              rw [tl_at HN3.out, tl_at h0]
              have := tl_le HS4.out
              have := HL3.out
              have := HM0.out
              omega)
            go_wp2
            exact ⟨⟨N', F', Q', HV3, HN3, HS4, HT3⟩, HME.out _ HN2.out⟩
end Go.Proofs.YtcijaaiopfbffaaDoor.Live
