/- An instruction and a label's place, written. No condition but that writer, map and places lie as they say. -/
import Derived.Test.YtmnhafncdblklaaDoorAs
import Derived.Deep.RegionWith
namespace Go.Proofs.YtmnhafncdblklaaDoor.Relax
open Go.RowKit Go.Proofs.YtmnhafncdblklaaDoor.Enc Go.Proofs.YtmnhafncdblklaaDoor.Graph Go.Maps

theorem PutPost.after {Z bm sb N bw : Nat} {G : Nat → Prop} {ws : List (Int × Int)} {w w2 : World} (hb : Below w.heap.size w w2) {e : Ending} {w' : World} (h : PutPost Z bm sb N bw G ws w2 e w') : PutPost Z bm sb N bw G ws w e w' := by
  obtain ⟨h1, G', vw, vk, h2, h3⟩ := h
  exact ⟨h1, G', vw, vk, h2, (WK.of_below G hb).trans h3⟩
set_option maxHeartbeats 4000000 in
set_option maxRecDepth 100000 in
theorem ins_prog (Z bm sb N bw : Nat) (G : Nat → Prop) (vw vk : Value) (ws : List (Int × Int)) (c : PC) (w : World) (h : WrR w Z bm sb N bw G vw vk ws) (hl : ws.length ≤ 100000) (hZ : Z ≤ w.heap.size) (hF : FormsAt w) :
    Calls Tryd.prog 53 #[.pointer (some ⟨bw, 0, none⟩), cV c] w (PutPost Z bm sb N bw G (ws ++ [((encP c).1, 1)]) w) := by
  obtain ⟨wd, er, hwd⟩ : ∃ wd er, encP c = (wd, er) := ⟨_, _, rfl⟩
  have HE := Lib.hid (fun (w : World) (hF : FormsAt w) => (enc_any c w hF).mono fun e w' (h : EncPost c w e w') => (⟨by rw [h.1, hwd], h.2⟩ : e = .returned (.tuple #[.int .u32 wd, .int .i64 er]) ∧ Below w.heap.size w w'))
  rw [hwd]
  have HP := Lib.hid (fun (w : World) h hZ => put_prog Z bm sb N bw G vw vk ws 1 wd w h hl hZ)
  have HW := Lib.hid h
  have HF := Lib.hid hF
  have HZ := Lib.hid hZ
  clear h hF hwd
  obtain ⟨op, fa, fb, imm⟩ := c
  unfold cV at HE ⊢
  simp only at HE ⊢
  go_enter Tryd.func53, Tryd.ntmps53
  go_wp2_with (first
    | (go_at_call 66; refine (HE.out _ (HF.out.alloc _)).mono ?_; rintro e w2 ⟨rfl, hb⟩; have HB := Lib.hid (bt (below_one w _) hb); clear hb)
    | (go_at_call 54; refine (HP.out _ (HW.out.below HB.out) (Nat.le_trans HZ.out HB.out.size)).mono ?_; rintro e w3 hp; have HPP := Lib.hid (PutPost.after HB.out hp); clear hp; obtain ⟨rfl, _⟩ := HPP.out))
  go_end0
  exact HPP.out
/-- What is read by a writer: the map of labels, where the parts begin. -/
structure Reads (w : World) (l : List PL) (bm sb N : Nat) (f : Nat → Int) : Prop where
  map : MapAt w bm 60000 l l.length
  row : RowI w sb N f
  n : (partsP l).length < N
  v : ∀ k, k < N → 0 ≤ f k ∧ f k ≤ 65536
theorem Reads.below {w w' : World} {l : List PL} {bm sb N : Nat} {f : Nat → Int} (h : Reads w l bm sb N f) {Z : Nat} (hb : Below Z w w') (h1 : bm < Z) (h2 : sb < Z) : Reads w' l bm sb N f := by
  obtain ⟨⟨es, clock, k1, k2⟩, k3, k4, k5⟩ := h
  exact ⟨⟨es, clock, (hb.block bm h1).trans k1, k2⟩, k3.of_block (hb.block sb h2), k4, k5⟩
/-- Where a label's place stands: the place at which it is. -/
def placeL (l : List PL) (f : Nat → Int) (lab : Int) : Int := f (toP l lab).toNat
set_option maxHeartbeats 4000000 in
set_option maxRecDepth 100000 in
theorem label_prog (l : List PL) (f : Nat → Int) (Z bm sb N bw : Nat) (G : Nat → Prop) (vw vk : Value) (ws : List (Int × Int)) (kind lab : Int) (w : World) (h : WrR w Z bm sb N bw G vw vk ws) (hl : ws.length ≤ 100000) (hZ : Z ≤ w.heap.size)
    (hR : Reads w l bm sb N f) (hlab : 0 ≤ lab ∧ lab ≤ 100000) :
    Calls Tryd.prog 55 #[.pointer (some ⟨bw, 0, none⟩), .int .i64 kind, .int .i64 lab] w (PutPost Z bm sb N bw G (ws ++ [(placeL l f lab, kind)]) w) := by
  have htb := toP_bd l lab
  obtain ⟨T, hT⟩ : ∃ T : Nat, toP l lab = (T : Int) := ⟨(toP l lab).toNat, by omega⟩
  have hTN : T < N := by have := hR.n; omega
  have hv := hR.v T hTN
  have hc := hR.row.cell (i := T) hTN
  have hpl : placeL l f lab = f T := by unfold placeL; rw [hT, Int.toNat_natCast]
  rw [hpl]
  have hlook := look_run (w := w) (b := bm) hR.map hlab
  have hlook2 := look_run (w := World.drew w) (b := bm) hR.map hlab
  rw [hT] at hlook2
  obtain ⟨⟨c0, c1, _, _⟩, _⟩ := four h.st
  have HP := Lib.hid (fun (w : World) h hZ => put_prog Z bm sb N bw G vw vk ws kind (f T) w h hl hZ)
  have HW := Lib.hid h
  have HZ := Lib.hid hZ
  have hlt := lt_of_block h.st
  have hsl := hR.row.lt
  generalize f T = v at *
  have i0 : (0 : Int) ≤ T := by omega
  have i1 : (T : Int) < N := by omega
  have i2 : IntKind.u32.wrap v = v := by rw [IntKind.wrap_u32]; omega
  have i3 : v % 4294967296 = v := by omega
  clear hlook hpl hT htb h hR hZ hlab hTN
  go_enter Tryd.func55, Tryd.ntmps55
  go_region_with (go_at_call 54; refine (HP.out (World.drew w) (HW.out.below (Below.refl _ _).drew) HZ.out).mono ?_; rintro e w3 hp; have HPP := Lib.hid (PutPost.after (Below.refl _ _).drew hp); clear hp; obtain ⟨rfl, _⟩ := HPP.out)
  all_goals
    go_wp2_with fail
    go_end0
    exact HPP.out
end Go.Proofs.YtmnhafncdblklaaDoor.Relax
