/- The law EmuFuel, where the program's machine does what the plain one does. -/
import Derived.Test.YtjbiikbmbacjkaaDoorDk
import Derived.Deep.DeepCutAuto
namespace Go.Proofs.YtjbiikbmbacjkaaDoor.Emu
open Go.RowKit Go.Proofs.YtjbiikbmbacjkaaDoor.Enc Go.Proofs.YtjbiikbmbacjkaaDoor.Graph
/-- A run is refused whatever the fuel, or goes whatever the fuel. -/
theorem run_fuels (ar : Int → Int → Int → Option Int) (hs : Int → Int → Int → Bool) (m : Image) (input : List UInt8) :
    (∃ er, er ≠ 0 ∧ ∀ f, 0 ≤ f ∧ f ≤ 1073741824 → runP ar hs m input f = (noOut, er)) ∨
    (∀ f, 0 ≤ f ∧ f ≤ 1073741824 → runP ar hs m input f = (outOf (runN ⟨m.words, input, ar, hs⟩ f.toNat (start ⟨m.words, input, ar, hs⟩ m.data m.entry)), 0)) := by
  by_cases h1 : mayI m = true
  · by_cases h2 : input.length ≤ 10000
    · exact .inr fun f hf => by unfold runP; rw [if_pos h1, if_pos h2, if_pos hf]
    · exact .inl ⟨2, by decide, fun f hf => by unfold runP; rw [if_pos h1, if_neg h2]⟩
  · exact .inl ⟨1, by decide, fun f hf => by unfold runP; rw [if_neg h1]⟩
/-- The three boxes of outcomes, behind three runs. -/
structure Three (w : World) (ba bb bc : Nat) (oa ob oc : Obj) (wq : World) : Prop where
  below : Below w.heap.size w wq
  a : wq.heap[ba]? = some oa
  b : wq.heap[bb]? = some ob
  c : wq.heap[bc]? = some oc
theorem three_1 {w x w4 : World} {ba bb : Nat} {oa ob : Obj} (HB : Below w.heap.size w x) (H4 : Below x.heap.size x w4) (ha : x.heap[ba]? = some oa) (hb : x.heap[bb]? = some ob) (oc : Obj) :
    w4.heap.size ≠ ba ∧ w4.heap.size ≠ bb ∧ Hid (Three w ba bb w4.heap.size oa ob oc (w4.alloc oc)) := by
  have la := Nat.lt_of_lt_of_le (Array.getElem?_eq_some_iff.1 ha).1 H4.size
  have lb := Nat.lt_of_lt_of_le (Array.getElem?_eq_some_iff.1 hb).1 H4.size
  exact ⟨by omega, by omega, Lib.hid ⟨bt HB (bt H4 (below_one w4 _)), (heap_alloc_old _ _ la).trans ((H4.block ba (Array.getElem?_eq_some_iff.1 ha).1).trans ha), (heap_alloc_old _ _ lb).trans ((H4.block bb (Array.getElem?_eq_some_iff.1 hb).1).trans hb), heap_alloc_new w4 _⟩⟩
theorem three_d {w wq : World} {ba bb bc : Nat} {oa ob oc : Obj} (h : bc ≠ ba ∧ bc ≠ bb ∧ Hid (Three w ba bb bc oa ob oc wq)) : bc ≠ ba ∧ bc ≠ bb ∧ Hid (Three w ba bb bc oa ob oc wq.drew) := ⟨h.1, h.2.1, Lib.hid ⟨h.2.2.out.below.drew, h.2.2.out.a, h.2.2.out.b, h.2.2.out.c⟩⟩
theorem undrew {a w : World} (h : Below a.drew.heap.size a.drew w) : Below a.heap.size a w := ((Below.refl _ a).drew).trans h
theorem set4 {w : World} {b : Nat} {v0 v1 v2 v3 u0 u1 u2 u3 : Value} {t : TypeId} (h : w.heap[b]? = some (.cells #[v0, v1, v2, v3] t (0, 0))) :
    ((((w.setCell ⟨b, 0, none⟩ u0).setCell ⟨b, 1, none⟩ u1).setCell ⟨b, 2, none⟩ u2).setCell ⟨b, 3, none⟩ u3).heap[b]? = some (.cells #[u0, u1, u2, u3] t (0, 0)) :=
  heap_setCell_same _ _ _ _ _ _ (heap_setCell_same _ _ _ _ _ _ (heap_setCell_same _ _ _ _ _ _ (heap_setCell_same _ _ _ _ _ _ h)))
theorem set4_other {w : World} {b c : Nat} {u0 u1 u2 u3 : Value} {o : Option Obj} (h : w.heap[c]? = o) (hne : c ≠ b) :
    ((((w.setCell ⟨b, 0, none⟩ u0).setCell ⟨b, 1, none⟩ u1).setCell ⟨b, 2, none⟩ u2).setCell ⟨b, 3, none⟩ u3).heap[c]? = o := set_other (set_other (set_other (set_other h hne) hne) hne) hne
theorem three_2 {w x w4 : World} {ba bb : Nat} {oa ob : Obj} {v0 v1 v2 v3 : Value} {t : TypeId} (HB : Below w.heap.size w x) (H5 : Below (x.alloc (.cells #[v0, v1, v2, v3] t)).heap.size (x.alloc (.cells #[v0, v1, v2, v3] t)) w4) (ha : x.heap[ba]? = some oa) (hb : x.heap[bb]? = some ob) (u0 u1 u2 u3 : Value) :
    x.heap.size ≠ ba ∧ x.heap.size ≠ bb ∧ Hid (Three w ba bb x.heap.size oa ob (.cells #[u0, u1, u2, u3] t (0, 0)) ((((w4.setCell ⟨x.heap.size, 0, none⟩ u0).setCell ⟨x.heap.size, 1, none⟩ u1).setCell ⟨x.heap.size, 2, none⟩ u2).setCell ⟨x.heap.size, 3, none⟩ u3)) := by
  have la := (Array.getElem?_eq_some_iff.1 ha).1
  have lb := (Array.getElem?_eq_some_iff.1 hb).1
  have hx := HB.size
  have hc := (H5.block x.heap.size (by simp)).trans (heap_alloc_new x _)
  exact ⟨by omega, by omega, Lib.hid ⟨((((bt HB (bt (below_one x _) H5)).setCell hx _).setCell hx _).setCell hx _).setCell hx _,
    set4_other ((H5.block ba (by simp; omega)).trans ((heap_alloc_old _ _ la).trans ha)) (by omega), set4_other ((H5.block bb (by simp; omega)).trans ((heap_alloc_old _ _ lb).trans hb)) (by omega), set4 hc⟩⟩
set_option maxHeartbeats 16000000 in
set_option maxRecDepth 100000 in
theorem fuel_go {ar : Int → Int → Int → Option Int} {hs : Int → Int → Int → Bool} (D : DoesRun ar hs) (m : Image) (vw vk vd : Value) (input : List UInt8) (fuel less : Int) (w : World) (h : ImgR w m vw vk vd) (hm : SmI m) (hf : inR fuel) (hl : inR less) (hF : FormsAt w)
    (F L Q : Int) (hFF : F = pickP fuel 30000) (hLL : L = pickP less (F + 1)) (hQQ : Q = pickP L 100) (A B C : Out) (er : Int) (hA : runP ar hs m input F = (A, er)) (hB : runP ar hs m input L = (B, er)) (hC : runP ar hs m input (F + Q) = (C, er))
    (hok : (er ≠ 0 ∧ A = noOut ∧ B = noOut ∧ C = noOut) ∨ (er = 0 ∧ A.stop ≠ 3 ∧ (A.steps : Int) ≤ L ∧ B = A ∧ C = A ∧ 1 ≤ A.steps ∧ (A.steps : Int) ≤ F) ∨ (er = 0 ∧ A.stop ≠ 3 ∧ L < A.steps ∧ C = A ∧ 1 ≤ A.steps ∧ (A.steps : Int) ≤ F ∧ B.stop = 3 ∧ B.code = 0 ∧ (B.steps : Int) = L ∧ (∃ t, A.bytes = B.bytes ++ t)) ∨
      (er = 0 ∧ A.stop = 3 ∧ (A.steps : Int) = F ∧ B.stop = 3 ∧ B.code = 0 ∧ (B.steps : Int) = L ∧ (∃ t, A.bytes = B.bytes ++ t) ∧ (∃ t, C.bytes = A.bytes ++ t)))
    (hlen : A.bytes.length ≤ 1073741824 ∧ C.bytes.length ≤ 1073741824) :
    Calls Tryd.prog 4 #[.agg #[vw, vk, vd, .int .i64 m.entry], .string ⟨input.toArray⟩, .int .i64 fuel, .int .i64 less] w (Is (.bool true) w) := by
  have r1 := pickP_range fuel (n := 30000) (by omega)
  rw [← hFF] at r1
  have r2 := pickP_range less (n := F + 1) (by omega)
  rw [← hLL] at r2
  have r3 := pickP_range L (n := 100) (by omega)
  rw [← hQQ] at r3
  have P1 := Lib.hid (fun w => hFF ▸ pick_any fuel 30000 w hf (by omega))
  have P2 := Lib.hid (fun w => hLL ▸ pick_any less (F + 1) w hl (by omega))
  have P3 := Lib.hid (fun w => hQQ ▸ pick_any L 100 w (by unfold inR; omega) (by omega))
  have HA := Lib.hid (fun (wx : World) (hx : Below w.heap.size w wx) => D.at_ hA wx (h.below hx) hm (by unfold inR; omega) (hF.below hx))
  have HB := Lib.hid (fun (wx : World) (hx : Below w.heap.size w wx) => D.at_ hB wx (h.below hx) hm (by unfold inR; omega) (hF.below hx))
  have HC := Lib.hid (fun (wx : World) (hx : Below w.heap.size w wx) => D.at_ hC wx (h.below hx) hm (by unfold inR; omega) (hF.below hx))
  have HL := Lib.hid (fun (wx : World) (hx : Below w.heap.size w wx) => live_any D wx (hF.below hx))
  have HBG := Lib.hid (fun (a t : List UInt8) w hl => begins_any a t w hl)
  have HOK := Lib.hid hok
  have HLEN := Lib.hid hlen
  obtain ⟨f1, f2⟩ := r1
  obtain ⟨l1, l2⟩ := r2
  obtain ⟨q1, q2⟩ := r3
  obtain ⟨pw, cw, rfl⟩ := h.words.form
  obtain ⟨pk, ck, rfl⟩ := h.kinds.form
  obtain ⟨pd, cd, rfl⟩ := h.data.form
  obtain ⟨words, kinds, data, entry⟩ := m
  obtain ⟨as_, ac_, abs_, at_⟩ := A
  obtain ⟨bs_, bc_, bbs_, bt_⟩ := B
  obtain ⟨cs_, cc_, cbs_, ct_⟩ := C
  simp only at HA HB HC HOK HLEN ⊢
  obtain ⟨nw, hnw⟩ : ∃ n, n = words.length := ⟨_, rfl⟩
  obtain ⟨nk, hnk⟩ : ∃ n, n = kinds.length := ⟨_, rfl⟩
  obtain ⟨nd, hnd⟩ : ∃ n, n = data.length := ⟨_, rfl⟩
  rw [← hnw, ← hnk, ← hnd] at HA HB HC ⊢
  clear hA hB hC hok hlen hFF hLL hQQ h hm hf hl D hF hnw hnk hnd
  go_enter Tryd.func4, Tryd.ntmps4
  go_upto_region 4 with (first
    | (go_at_call 16; (with_reducible refine (P1.out _).mono ?_); rintro e w ⟨rfl, rfl⟩)
    | (go_at_call 16; (with_reducible refine (P2.out _).mono ?_); rintro e w ⟨rfl, rfl⟩)
    | (go_at_call 12; (with_reducible refine (HA.out _ (below_one _ _)).mono ?_); rintro e w2 ⟨rfl, hb2⟩; have H2 := Lib.hid hb2; clear hb2))
  have HI2 : Hid ((w2.alloc (.cells #[.int .i64 as_, .int .u32 ac_, .string ⟨abs_.toArray⟩, .int .i64 (at_ : Int)] 29)).heap[w.heap.size]? = some (.cells #[.slice pw nw cw, .slice pk nk ck, .slice pd nd cd, .int .i64 entry] 25 (0, 0))) := Lib.hid ((heap_alloc_old _ _ (by have := H2.out.size; simp at this; omega)).trans ((H2.out.block w.heap.size (by simp)).trans (heap_alloc_new w _)))
  have HA2 : Hid ((w2.alloc (.cells #[.int .i64 as_, .int .u32 ac_, .string ⟨abs_.toArray⟩, .int .i64 (at_ : Int)] 29)).heap[w2.heap.size]? = some (.cells #[.int .i64 as_, .int .u32 ac_, .string ⟨abs_.toArray⟩, .int .i64 (at_ : Int)] 29 (0, 0))) := Lib.hid (heap_alloc_new w2 _)
  have HB2 : Hid (Below w.heap.size w (w2.alloc (.cells #[.int .i64 as_, .int .u32 ac_, .string ⟨abs_.toArray⟩, .int .i64 (at_ : Int)] 29))) := Lib.hid (bt (bt (below_one w _) H2.out) (below_one w2 _))
  obtain ⟨ba, hba⟩ : ∃ ba, ba = w2.heap.size := ⟨_, rfl⟩
  obtain ⟨bi, hbi⟩ : ∃ bi, bi = w.heap.size := ⟨_, rfl⟩
  rw [← hba] at HA2 ⊢
  rw [← hbi] at HI2 ⊢
  have HBI := Lib.hid hbi
  clear hba hbi H2 HA
  generalize (w2.alloc (.cells #[.int .i64 as_, .int .u32 ac_, .string ⟨abs_.toArray⟩, .int .i64 (at_ : Int)] 29)) = x2 at HI2 HA2 HB2 ⊢
  obtain ⟨i0, i1, i2, i3, if0, if1, if2, if3, il⟩ := box4 HI2.out
  go_upto_region 5 with ((go_at_call 12; (with_reducible refine (HB.out _ HB2.out).mono ?_); rintro e w3 ⟨rfl, hb3⟩; have H3 := Lib.hid hb3; clear hb3))
  have HI3 : Hid ((w3.alloc (.cells #[.int .i64 bs_, .int .u32 bc_, .string ⟨bbs_.toArray⟩, .int .i64 (bt_ : Int)] 29)).heap[bi]? = some (.cells #[.slice pw nw cw, .slice pk nk ck, .slice pd nd cd, .int .i64 entry] 25 (0, 0))) := Lib.hid ((heap_alloc_old _ _ (Nat.lt_of_lt_of_le il H3.out.size)).trans ((H3.out.block bi il).trans HI2.out))
  have HA3 : Hid ((w3.alloc (.cells #[.int .i64 bs_, .int .u32 bc_, .string ⟨bbs_.toArray⟩, .int .i64 (bt_ : Int)] 29)).heap[ba]? = some (.cells #[.int .i64 as_, .int .u32 ac_, .string ⟨abs_.toArray⟩, .int .i64 (at_ : Int)] 29 (0, 0))) := Lib.hid ((heap_alloc_old _ _ (Nat.lt_of_lt_of_le (lt_of_block HA2.out) H3.out.size)).trans ((H3.out.block ba (lt_of_block HA2.out)).trans HA2.out))
  have HBB3 : Hid ((w3.alloc (.cells #[.int .i64 bs_, .int .u32 bc_, .string ⟨bbs_.toArray⟩, .int .i64 (bt_ : Int)] 29)).heap[w3.heap.size]? = some (.cells #[.int .i64 bs_, .int .u32 bc_, .string ⟨bbs_.toArray⟩, .int .i64 (bt_ : Int)] 29 (0, 0))) := Lib.hid (heap_alloc_new w3 _)
  have HB3 : Hid (Below w.heap.size w (w3.alloc (.cells #[.int .i64 bs_, .int .u32 bc_, .string ⟨bbs_.toArray⟩, .int .i64 (bt_ : Int)] 29))) := Lib.hid (bt (bt HB2.out H3.out) (below_one w3 _))
  obtain ⟨bb, hbb⟩ : ∃ bb, bb = w3.heap.size := ⟨_, rfl⟩
  rw [← hbb] at HBB3 ⊢
  have HNE : Hid (ba ≠ bb) := Lib.hid (by have := Nat.lt_of_lt_of_le (lt_of_block HA2.out) H3.out.size; omega)
  clear hbb H3 HB HA2 HI2 HB2 i0 i1 i2 i3 if0 if1 if2 if3 il
  generalize (w3.alloc (.cells #[.int .i64 bs_, .int .u32 bc_, .string ⟨bbs_.toArray⟩, .int .i64 (bt_ : Int)] 29)) = x3 at HI3 HA3 HBB3 HB3 ⊢
  obtain ⟨i0, i1, i2, i3, if0, if1, if2, if3, il⟩ := box4 HI3.out
  have i9 : bi ≠ x3.heap.size := by omega
  have i10 : x3.heap.size ≠ bi := by omega
  have f9 : IntKind.i64.wrap (F + Q) = F + Q := IntWalk.i64_in _ (by omega)
  go_cut [13, 14] from 35 to 44 (fun v g wq => g = .int .i64 er ∧ ∃ bc, v = .pointer (some ⟨bc, 0, none⟩) ∧ bc ≠ ba ∧ bc ≠ bb ∧ Hid (Three w ba bb bc (.cells #[.int .i64 as_, .int .u32 ac_, .string ⟨abs_.toArray⟩, .int .i64 (at_ : Int)] 29 (0, 0)) (.cells #[.int .i64 bs_, .int .u32 bc_, .string ⟨bbs_.toArray⟩, .int .i64 (bt_ : Int)] 29 (0, 0)) (.cells #[.int .i64 cs_, .int .u32 cc_, .string ⟨cbs_.toArray⟩, .int .i64 (ct_ : Int)] 29 (0, 0)) wq))
  case first =>
    go_region_with (first
      | (go_at_call 16; (with_reducible refine (P3.out _).mono ?_); rintro e x3 ⟨rfl, rfl⟩)
      | (go_at_call 12; (with_reducible refine (HC.out _ (HB3.out.drew)).mono ?_); rintro e w4 ⟨rfl, hb4⟩; have H4 := Lib.hid hb4; clear hb4)
      | (go_at_call 12; (with_reducible refine (HC.out _ HB3.out).mono ?_); rintro e w4 ⟨rfl, hb4⟩; have H4 := Lib.hid hb4; clear hb4)
      | (go_at_call 12; (with_reducible refine (HC.out _ ((bt HB3.out (below_one _ _)).drew)).mono ?_); rintro e w4 ⟨rfl, hb4⟩; have H5 := Lib.hid hb4; obtain ⟨d0, d1, d2, d3, df0, df1, df2, df3, dl⟩ := box4 ((hb4.block x3.heap.size (by first | (simp; done) | exact Nat.lt_succ_self _)).trans (heap_alloc_new x3 _)); clear hb4))
    all_goals
      go_wp2
      go_meet
      first
        | exact ⟨rfl, _, rfl, three_1 HB3.out H4.out HA3.out HBB3.out _⟩
        | exact ⟨rfl, _, rfl, three_d (three_1 HB3.out H4.out HA3.out HBB3.out _)⟩
        | exact ⟨rfl, _, rfl, three_1 HB3.out.drew H4.out HA3.out HBB3.out _⟩
        | exact ⟨rfl, _, rfl, three_2 HB3.out (undrew H5.out) HA3.out HBB3.out _ _ _ _⟩
        | exact ⟨rfl, _, rfl, three_d (three_2 HB3.out (undrew H5.out) HA3.out HBB3.out _ _ _ _)⟩
        | exact ⟨rfl, _, rfl, three_2 HB3.out H5.out HA3.out HBB3.out _ _ _ _⟩
        | exact ⟨rfl, _, rfl, three_d (three_2 HB3.out H5.out HA3.out HBB3.out _ _ _ _)⟩
  case rest =>
    obtain ⟨rfl, bc, rfl, n1, n2, HT⟩ := hcut
    have HN := Lib.hid n1
    clear HI3 HA3 HBB3 HB3 i0 i1 i2 i3 if0 if1 if2 if3 il i9 i10 P1 P2 P3 HC HBI
    obtain ⟨a0, a1, a2, a3, _, _, _, _, al⟩ := box4 HT.out.a
    obtain ⟨b0, b1, b2, b3, _, _, _, _, bl⟩ := box4 HT.out.b
    obtain ⟨c0, c1, c2, c3, _, _, _, _, cl⟩ := box4 HT.out.c
    rcases HOK.out with ⟨he, hA, hB, hC⟩ | ⟨rfl, k1, k2, hB, hC, k3, k4⟩ | ⟨rfl, k1, k2, hC, k3, k4, rfl, rfl, k5, t, ht⟩ | ⟨rfl, rfl, k1, rfl, rfl, k5, ⟨t, ht⟩, ⟨t2, ht2⟩⟩
    · obtain ⟨rfl, rfl, rfl, rfl⟩ : as_ = 0 ∧ ac_ = 0 ∧ abs_ = [] ∧ at_ = 0 := by simpa [noOut] using hA
      obtain ⟨rfl, rfl, rfl, rfl⟩ : bs_ = 0 ∧ bc_ = 0 ∧ bbs_ = [] ∧ bt_ = 0 := by simpa [noOut] using hB
      obtain ⟨rfl, rfl, rfl, rfl⟩ : cs_ = 0 ∧ cc_ = 0 ∧ cbs_ = [] ∧ ct_ = 0 := by simpa [noOut] using hC
      have g0 : (er == 0) = false := by simpa using he
      have g1 : (er != 0) = true := by simpa using he
      clear hA hB hC he HBG
      go_wp2_with (go_at_call 14; refine (HL.out _ HT.out.below).mono ?_; rintro e w9 ⟨rfl, hb9⟩; have H9 := Lib.hid hb9; have a0_ := (hb9.cell (p := ⟨ba, 0, none⟩) al).trans a0; have a1_ := (hb9.cell (p := ⟨ba, 1, none⟩) al).trans a1; have a2_ := (hb9.cell (p := ⟨ba, 2, none⟩) al).trans a2; have a3_ := (hb9.cell (p := ⟨ba, 3, none⟩) al).trans a3; have b0_ := (hb9.cell (p := ⟨bb, 0, none⟩) bl).trans b0; have b1_ := (hb9.cell (p := ⟨bb, 1, none⟩) bl).trans b1; have b2_ := (hb9.cell (p := ⟨bb, 2, none⟩) bl).trans b2; have b3_ := (hb9.cell (p := ⟨bb, 3, none⟩) bl).trans b3; have c0_ := (hb9.cell (p := ⟨bc, 0, none⟩) cl).trans c0; have c1_ := (hb9.cell (p := ⟨bc, 1, none⟩) cl).trans c1; have c2_ := (hb9.cell (p := ⟨bc, 2, none⟩) cl).trans c2; have c3_ := (hb9.cell (p := ⟨bc, 3, none⟩) cl).trans c3; clear hb9)
      go_ret
      exact ⟨by simp, bt HT.out.below H9.out⟩
    · obtain ⟨rfl, rfl, rfl, rfl⟩ : bs_ = as_ ∧ bc_ = ac_ ∧ bbs_ = abs_ ∧ bt_ = at_ := by simpa using hB
      obtain ⟨rfl, rfl, rfl, rfl⟩ : cs_ = bs_ ∧ cc_ = bc_ ∧ cbs_ = bbs_ ∧ ct_ = bt_ := by simpa using hC
      have g0 : (cs_ == 3) = false := by simpa using k1
      have g1 : (cs_ != 3) = true := by simpa using k1
      have k6 : (1 : Int) ≤ ct_ := by omega
      clear hB hC k1 k3 HBG
      generalize (⟨cbs_.toArray⟩ : ByteArray) = sa at *
      go_wp2_with (go_at_call 14; refine (HL.out _ HT.out.below).mono ?_; rintro e w9 ⟨rfl, hb9⟩; have H9 := Lib.hid hb9; have a0_ := (hb9.cell (p := ⟨ba, 0, none⟩) al).trans a0; have a1_ := (hb9.cell (p := ⟨ba, 1, none⟩) al).trans a1; have a2_ := (hb9.cell (p := ⟨ba, 2, none⟩) al).trans a2; have a3_ := (hb9.cell (p := ⟨ba, 3, none⟩) al).trans a3; have b0_ := (hb9.cell (p := ⟨bb, 0, none⟩) bl).trans b0; have b1_ := (hb9.cell (p := ⟨bb, 1, none⟩) bl).trans b1; have b2_ := (hb9.cell (p := ⟨bb, 2, none⟩) bl).trans b2; have b3_ := (hb9.cell (p := ⟨bb, 3, none⟩) bl).trans b3; have c0_ := (hb9.cell (p := ⟨bc, 0, none⟩) cl).trans c0; have c1_ := (hb9.cell (p := ⟨bc, 1, none⟩) cl).trans c1; have c2_ := (hb9.cell (p := ⟨bc, 2, none⟩) cl).trans c2; have c3_ := (hb9.cell (p := ⟨bc, 3, none⟩) cl).trans c3; clear hb9)
      go_ret
      exact ⟨by simp, bt HT.out.below H9.out⟩
    · obtain ⟨rfl, rfl, rfl, rfl⟩ : cs_ = as_ ∧ cc_ = ac_ ∧ cbs_ = abs_ ∧ ct_ = at_ := by simpa using hC
      have g0 : (cs_ == 3) = false := by simpa using k1
      have g1 : (cs_ != 3) = true := by simpa using k1
      have k6 : (1 : Int) ≤ ct_ := by omega
      have HG1 := Lib.hid (fun w => by have := HBG.out bbs_ t w (by rw [← ht]; have := HLEN.out.1; omega); rw [← ht] at this; exact this)
      have HG2 := Lib.hid (fun w => by have := HBG.out cbs_ [] w (by rw [List.append_nil]; have := HLEN.out.1; omega); rw [List.append_nil] at this; exact this)
      clear hC k1 k3 HBG ht
      generalize (⟨cbs_.toArray⟩ : ByteArray) = sa at *
      generalize (⟨bbs_.toArray⟩ : ByteArray) = sb at *
      go_wp2_with (first
        | (go_at_call 14; refine (HL.out _ HT.out.below).mono ?_; rintro e w9 ⟨rfl, hb9⟩; have H9 := Lib.hid hb9; have a0_ := (hb9.cell (p := ⟨ba, 0, none⟩) al).trans a0; have a1_ := (hb9.cell (p := ⟨ba, 1, none⟩) al).trans a1; have a2_ := (hb9.cell (p := ⟨ba, 2, none⟩) al).trans a2; have a3_ := (hb9.cell (p := ⟨ba, 3, none⟩) al).trans a3; have b0_ := (hb9.cell (p := ⟨bb, 0, none⟩) bl).trans b0; have b1_ := (hb9.cell (p := ⟨bb, 1, none⟩) bl).trans b1; have b2_ := (hb9.cell (p := ⟨bb, 2, none⟩) bl).trans b2; have b3_ := (hb9.cell (p := ⟨bb, 3, none⟩) bl).trans b3; have c0_ := (hb9.cell (p := ⟨bc, 0, none⟩) cl).trans c0; have c1_ := (hb9.cell (p := ⟨bc, 1, none⟩) cl).trans c1; have c2_ := (hb9.cell (p := ⟨bc, 2, none⟩) cl).trans c2; have c3_ := (hb9.cell (p := ⟨bc, 3, none⟩) cl).trans c3; clear hb9)
        | (go_at_call 17; (with_reducible refine (HG1.out _).mono ?_); rintro e wx ⟨rfl, rfl⟩)
        | (go_at_call 17; (with_reducible refine (HG2.out _).mono ?_); rintro e wx ⟨rfl, rfl⟩))
      go_ret
      exact ⟨by simp, bt HT.out.below H9.out⟩
    · have HG1 := Lib.hid (fun w => by have := HBG.out bbs_ t w (by rw [← ht]; have := HLEN.out.1; omega); rw [← ht] at this; exact this)
      have HG2 := Lib.hid (fun w => by have := HBG.out abs_ t2 w (by rw [← ht2]; have := HLEN.out.2; omega); rw [← ht2] at this; exact this)
      have k7 : ((at_ : Int) == F) = true := by simpa using k1
      have k8 : ((at_ : Int) != F) = false := by simpa using k1
      have k9 : (at_ : Int) ≤ F := by omega
      have k10 : ((bt_ : Int) == L) = true := by simpa using k5
      clear k1 k5 HBG ht ht2
      generalize (⟨cbs_.toArray⟩ : ByteArray) = sc at *
      generalize (⟨abs_.toArray⟩ : ByteArray) = sa at *
      generalize (⟨bbs_.toArray⟩ : ByteArray) = sb at *
      go_wp2_with (first
        | (go_at_call 14; refine (HL.out _ HT.out.below).mono ?_; rintro e w9 ⟨rfl, hb9⟩; have H9 := Lib.hid hb9; have a0_ := (hb9.cell (p := ⟨ba, 0, none⟩) al).trans a0; have a1_ := (hb9.cell (p := ⟨ba, 1, none⟩) al).trans a1; have a2_ := (hb9.cell (p := ⟨ba, 2, none⟩) al).trans a2; have a3_ := (hb9.cell (p := ⟨ba, 3, none⟩) al).trans a3; have b0_ := (hb9.cell (p := ⟨bb, 0, none⟩) bl).trans b0; have b1_ := (hb9.cell (p := ⟨bb, 1, none⟩) bl).trans b1; have b2_ := (hb9.cell (p := ⟨bb, 2, none⟩) bl).trans b2; have b3_ := (hb9.cell (p := ⟨bb, 3, none⟩) bl).trans b3; have c0_ := (hb9.cell (p := ⟨bc, 0, none⟩) cl).trans c0; have c1_ := (hb9.cell (p := ⟨bc, 1, none⟩) cl).trans c1; have c2_ := (hb9.cell (p := ⟨bc, 2, none⟩) cl).trans c2; have c3_ := (hb9.cell (p := ⟨bc, 3, none⟩) cl).trans c3; clear hb9)
        | (go_at_call 17; (with_reducible refine (HG1.out _).mono ?_); rintro e wx ⟨rfl, rfl⟩)
        | (go_at_call 17; (with_reducible refine (HG2.out _).mono ?_); rintro e wx ⟨rfl, rfl⟩))
      go_ret
      exact ⟨by simp, bt HT.out.below H9.out⟩
end Go.Proofs.YtjbiikbmbacjkaaDoor.Emu
