/- A branch written. No condition but that writer, map and places lie as they say. -/
import Derived.Test.YtmnhafncdblklaaDoorAv
import Derived.Deep.RegionLaw
namespace Go.Proofs.YtmnhafncdblklaaDoor.Relax
open Go.RowKit Go.Proofs.YtmnhafncdblklaaDoor.Enc Go.Proofs.YtmnhafncdblklaaDoor.Graph Go.Maps

/-- A writer at work: all that it reads and writes. -/
structure We (w : World) (l : List PL) (f : Nat → Int) (Z bm sb N bw : Nat) (G : Nat → Prop) (vw vk : Value) (ws : List (Int × Int)) : Prop where
  wr : WrR w Z bm sb N bw G vw vk ws
  forms : FormsAt w
  reads : Reads w l bm sb N f
  bmz : bm < Z
  sbz : sb < Z
  z0 : 0 < Z
  zs : Z ≤ w.heap.size
theorem We.below {w w' : World} {l : List PL} {f : Nat → Int} {Z bm sb N bw : Nat} {G : Nat → Prop} {vw vk : Value} {ws : List (Int × Int)} (h : We w l f Z bm sb N bw G vw vk ws) (hb : Below w.heap.size w w') : We w' l f Z bm sb N bw G vw vk ws :=
  ⟨h.wr.below hb, h.forms.below hb, h.reads.below (hb.mono h.zs) h.bmz h.sbz, h.bmz, h.sbz, h.z0, Nat.le_trans h.zs hb.size⟩
theorem forms_z {w w' : World} {Z : Nat} (h : FormsAt w) (hz : 0 < Z) (hb : Below Z w w') : FormsAt w' := by
  obtain ⟨t, fr, h⟩ := h
  exact ⟨t, fr, (hb.block 0 hz).trans h⟩
theorem We.next {w w' : World} {l : List PL} {f : Nat → Int} {Z bm sb N bw : Nat} {G G' : Nat → Prop} {vw vk vw' vk' : Value} {ws ws' : List (Int × Int)} (h : We w l f Z bm sb N bw G vw vk ws) (hw : WrR w' Z bm sb N bw G' vw' vk' ws') (hk : WK w w' G G') :
    We w' l f Z bm sb N bw G' vw' vk' ws' := by
  have hb : Below Z w w' := hk.below (fun b hb => (h.wr.lt hb).1) h.zs
  exact ⟨hw, forms_z h.forms h.z0 hb, h.reads.below hb h.bmz h.sbz, h.bmz, h.sbz, h.z0, Nat.le_trans h.zs hb.size⟩
theorem We.not_new {w : World} {l : List PL} {f : Nat → Int} {Z bm sb N bw : Nat} {G : Nat → Prop} {vw vk : Value} {ws : List (Int × Int)} (h : We w l f Z bm sb N bw G vw vk ws) {b : Nat} (hb : w.heap.size ≤ b) : ¬ G b := fun hg => by
  have := (h.wr.lt hg).2; omega
theorem not_next {w w' : World} {G G' : Nat → Prop} (h : WK w w' G G') {b : Nat} (hb : b < w.heap.size) (hg : ¬ G b) : ¬ G' b := fun h2 => by
  rcases h.new b h2 with h3 | h3
  · exact hg h3
  · omega
theorem put_app {Z bm sb N bw : Nat} {G : Nat → Prop} {ws : List (Int × Int)} {a b : List (Int × Int)} {w : World} {e : Ending} {w' : World} (h : PutPost Z bm sb N bw G ((ws ++ a) ++ b) w e w') : PutPost Z bm sb N bw G (ws ++ (a ++ b)) w e w' := by
  rw [← List.append_assoc]; exact h
theorem PutPost.chain {Z bm sb N bw : Nat} {G G' : Nat → Prop} {ws : List (Int × Int)} {w w2 : World} (hk : WK w w2 G G') {e : Ending} {w' : World} (h : PutPost Z bm sb N bw G' ws w2 e w') : PutPost Z bm sb N bw G ws w e w' := by
  obtain ⟨h1, G', vw, vk, h2, h3⟩ := h
  exact ⟨h1, G', vw, vk, h2, hk.trans h3⟩
theorem ins_we {l : List PL} {f : Nat → Int} {Z bm sb N bw : Nat} {G : Nat → Prop} {vw vk : Value} {ws : List (Int × Int)} {w : World} (c : PC) (h : We w l f Z bm sb N bw G vw vk ws) (hl : ws.length ≤ 100000) :
    Calls Tryd.prog 53 #[.pointer (some ⟨bw, 0, none⟩), cV c] w (PutPost Z bm sb N bw G (ws ++ [((encP c).1, 1)]) w) := ins_prog Z bm sb N bw G vw vk ws c w h.wr hl h.zs h.forms
theorem label_we {l : List PL} {f : Nat → Int} {Z bm sb N bw : Nat} {G : Nat → Prop} {vw vk : Value} {ws : List (Int × Int)} {w : World} (kind lab : Int) (h : We w l f Z bm sb N bw G vw vk ws) (hl : ws.length ≤ 100000) (hlab : 0 ≤ lab ∧ lab ≤ 100000) :
    Calls Tryd.prog 55 #[.pointer (some ⟨bw, 0, none⟩), .int .i64 kind, .int .i64 lab] w (PutPost Z bm sb N bw G (ws ++ [(placeL l f lab, kind)]) w) := label_prog l f Z bm sb N bw G vw vk ws kind lab w h.wr hl h.zs h.reads hlab
theorem put_we {l : List PL} {f : Nat → Int} {Z bm sb N bw : Nat} {G : Nat → Prop} {vw vk : Value} {ws : List (Int × Int)} {w : World} (kind word : Int) (h : We w l f Z bm sb N bw G vw vk ws) (hl : ws.length ≤ 100000) :
    Calls Tryd.prog 54 #[.pointer (some ⟨bw, 0, none⟩), .int .i64 kind, .int .u32 word] w (PutPost Z bm sb N bw G (ws ++ [(word, kind)]) w) := put_prog Z bm sb N bw G vw vk ws kind word w h.wr hl h.zs
def brW (l : List PL) (f : Nat → Int) (op a b reach lab : Int) : List (Int × Int) :=
  if nearB reach then [((encP ⟨op, a, b, reach⟩).1, 1)]
  else (if op = 40 then [] else [((encP ⟨otherP op, a, b, 2⟩).1, 1)]) ++ [((encP ⟨41, 0, 0, 0⟩).1, 1), (placeL l f lab, 2)]
set_option maxHeartbeats 4000000 in
set_option maxRecDepth 100000 in
theorem branch_prog (l : List PL) (f : Nat → Int) (Z bm sb N bw : Nat) (G : Nat → Prop) (vw vk : Value) (ws : List (Int × Int)) (op fa fb imm lab reach : Int) (w : World) (h : We w l f Z bm sb N bw G vw vk ws) (hl : ws.length ≤ 99000) (hlab : 0 ≤ lab ∧ lab ≤ 100000) (hop : 30 ≤ op ∧ op ≤ 40) :
    Calls Tryd.prog 52 #[.pointer (some ⟨bw, 0, none⟩), cV ⟨op, fa, fb, imm⟩, .int .i64 lab, .int .i64 reach] w (PutPost Z bm sb N bw G (ws ++ brW l f op fa fb reach lab) w) := by
  obtain ⟨nr, hnr⟩ : ∃ b, nearB reach = b := ⟨_, rfl⟩
  have HNR := Lib.hid (fun w => hnr ▸ near_prog reach w)
  have HW := Lib.hid h
  have hgn := h.not_new (Nat.le_refl _)
  unfold cV
  simp only
  cases nr
  case true =>
    have HE := Lib.hid (show brW l f op fa fb reach lab = [((encP ⟨op, fa, fb, reach⟩).1, 1)] by unfold brW; rw [if_pos hnr])
    clear h hnr
    go_enter Tryd.func52, Tryd.ntmps52
    go_wp2_with (first
      | (go_at_call 63; refine (HNR.out _).mono ?_; rintro e w2 ⟨rfl, hw2⟩; have hw3 := hw2.symm; clear hw2; subst hw3)
      | (go_at_call 53; refine (ins_we (c := ⟨op, fa, fb, reach⟩) (HW.out.below (below_one w _)) (by omega)).mono ?_; rintro e w3 hp; have HPP := Lib.hid (PutPost.after (below_one w _) hp); clear hp; obtain ⟨rfl, _⟩ := HPP.out))
    go_end0
    rw [HE.out]; exact HPP.out
  case false =>
    have hnq : ¬ (nearB reach = true) := by rw [hnr]; simp
    by_cases h40 : op = 40
    · have HE := Lib.hid (show brW l f op fa fb reach lab = [((encP ⟨41, 0, 0, 0⟩).1, 1)] ++ [(placeL l f lab, 2)] by unfold brW; rw [if_neg hnq, if_pos h40]; rfl)
      subst h40
      have HA := Lib.hid (h.below (below_one w (.cells #[.int .i64 40, .int .i64 fa, .int .i64 fb, .int .i64 imm] 48)))
      clear h hnr hnq
      go_enter Tryd.func52, Tryd.ntmps52
      go_wp2_with (first
      | (go_at_call 63; refine (HNR.out _).mono ?_; rintro e w2 ⟨rfl, hw2⟩; have hw3 := hw2.symm; clear hw2; subst hw3)
      | (go_at_call 53; go_loud (refine (ins_we (c := ⟨41, 0, 0, 0⟩) HA.out (by omega)).mono ?_); rintro e w3 ⟨rfl, G1, v1, v2, h1, h2⟩; have HB1 := Lib.hid (We.next HA.out h1 h2); have HK1 := Lib.hid h2; clear h1 h2)
      | (go_at_call 55; (with_reducible refine (label_we 2 lab HB1.out (by simp; omega) hlab).mono ?_); rintro e w4 hp; have HPP := Lib.hid (PutPost.chain ((WK.of_below G (below_one w _)).trans HK1.out) hp); clear hp; obtain ⟨rfl, _⟩ := HPP.out))
      go_end0
      rw [HE.out]; exact put_app HPP.out
    · have HE := Lib.hid (show brW l f op fa fb reach lab = [((encP ⟨otherP op, fa, fb, 2⟩).1, 1)] ++ ([((encP ⟨41, 0, 0, 0⟩).1, 1)] ++ [(placeL l f lab, 2)]) by unfold brW; rw [if_neg hnq, if_neg h40]; rfl)
      have HA := Lib.hid (h.below (below_one w (.cells #[.int .i64 op, .int .i64 fa, .int .i64 fb, .int .i64 imm] 48)))
      have HO := Lib.hid (fun w => other_prog op (by omega) w)
      have e1 : (op == 40) = false := by simpa using h40
      have e2 : (op != 40) = true := by simpa using h40
      have hz1 : w.heap.size < (w.alloc (.cells #[.int .i64 op, .int .i64 fa, .int .i64 fb, .int .i64 imm] 48)).heap.size := by simp
      clear h hnr hnq h40 hop
      go_enter Tryd.func52, Tryd.ntmps52
      go_upto_region 5 with (go_at_call 63; refine (HNR.out _).mono ?_; rintro e w2 ⟨rfl, hw2⟩; have hw3 := hw2.symm; clear hw2; subst hw3)
      go_cut [0] (fun p wc => p = .pointer (some ⟨bw, 0, none⟩) ∧ Hid (PutPost Z bm sb N bw G (ws ++ [((encP ⟨otherP op, fa, fb, 2⟩).1, 1)]) (w.alloc (.cells #[.int .i64 op, .int .i64 fa, .int .i64 fb, .int .i64 imm] 48)) (.returned (.tuple #[])) wc))
      case first =>
        go_region_law (first
          | ((try go_simp); go_at_call 65; refine (HO.out (World.drew _)).mono ?_; rintro e w3 ⟨rfl, hw3⟩; have hw4 := hw3.symm; clear hw3; subst hw4)
          | ((try go_simp); go_at_call 53; refine (ins_we (c := ⟨otherP op, fa, fb, 2⟩) (w := World.drew _) (HA.out.below (Below.refl _ _).drew) (by omega)).mono ?_; rintro e w3 hp; have HPP := Lib.hid (PutPost.after ((Below.refl _ _).drew) hp); clear hp; obtain ⟨rfl, _⟩ := HPP.out))
        all_goals (go_wp2_with fail; go_meet; exact ⟨rfl, HPP⟩)
      case rest =>
        obtain ⟨rfl, hcp⟩ := hcut
        obtain ⟨_, G0, v0, v00, h1, h2⟩ := hcp.out
        have HC := Lib.hid (We.next HA.out h1 h2)
        have HK0 := Lib.hid h2
        clear h1 h2
        go_wp2_with (first
      | (go_at_call 63; refine (HNR.out _).mono ?_; rintro e w2 ⟨rfl, hw2⟩; have hw3 := hw2.symm; clear hw2; subst hw3)
      | (go_at_call 53; (with_reducible refine (ins_we (c := ⟨41, 0, 0, 0⟩) HC.out (by simp; omega)).mono ?_); rintro e w3 ⟨rfl, G1, v1, v2, h1, h2⟩; have HB1 := Lib.hid (We.next HC.out h1 h2); have HK1 := Lib.hid h2; clear h1 h2)
      | (go_at_call 55; (with_reducible refine (label_we 2 lab HB1.out (by simp; omega) hlab).mono ?_); rintro e w4 hp; have HPP := Lib.hid (PutPost.chain (((WK.of_below G (below_one w _)).trans HK0.out).trans HK1.out) hp); clear hp; obtain ⟨rfl, _⟩ := HPP.out))
        go_end0
        rw [HE.out]; exact put_app (put_app HPP.out)
end Go.Proofs.YtmnhafncdblklaaDoor.Relax
