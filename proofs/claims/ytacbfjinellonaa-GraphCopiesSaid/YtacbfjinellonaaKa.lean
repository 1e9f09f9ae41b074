/- How things lie, carried over to a world that holds at least those cells; a world cut down to some of its blocks. -/
import Derived.Test.YtacbfjinellonaaIb
namespace Go.Proofs.Ytacbfjinellonaa.Graph
open Go.RowKit

/-- The second world holds whatever the first one holds. -/
structure Holds2 (w w' : World) : Prop where
  size : w.heap.size ≤ w'.heap.size
  cell : ∀ (b o : Nat) (v : Value), w.cell? ⟨b, o, none⟩ = some v → w'.cell? ⟨b, o, none⟩ = some v
theorem SlR.holds {w w' : World} {sz : Nat} {v : Value} {n : Nat} {P P' : Nat → Nat → Nat → Prop} (h : SlR w sz v n P) (hb : Holds2 w w') (hP : ∀ i b o, b < w.heap.size → P i b o → P' i b o) : SlR w' sz v n P' := by
  rcases h with h | ⟨b, o, c, h1, h2, h3, h4, h5⟩
  · exact .inl h
  · exact .inr ⟨b, o, c, h1, h2, h3, Nat.lt_of_lt_of_le h4 hb.size, fun i hi => hP i b _ h4 (h5 i hi)⟩
section
variable {w w' : World} (hb : Holds2 w w')
include hb
theorem IntsR.holds {v : Value} {l : List Int} (h : IntsR w v l) : IntsR w' v l := SlR.holds h hb fun _ _ _ _ hP x hx => hb.cell _ _ _ (hP x hx)
theorem WordsR.holds {v : Value} {l : List Int} (h : WordsR w v l) : WordsR w' v l := SlR.holds h hb fun _ _ _ _ hP x hx => hb.cell _ _ _ (hP x hx)
theorem CasesR.holds {v : Value} {l : List PCase} (h : CasesR w v l) : CasesR w' v l := SlR.holds h hb fun _ _ _ _ hP x hx => ⟨hb.cell _ _ _ (hP x hx).1, hb.cell _ _ _ (hP x hx).2⟩
theorem ArrsR.holds {v : Value} {l : List PArr} (h : ArrsR w v l) : ArrsR w' v l := SlR.holds h hb fun _ _ _ _ hP x hx => ⟨hb.cell _ _ _ (hP x hx).1, hb.cell _ _ _ (hP x hx).2⟩
theorem InsL.holds {va vr : Value} {x : PIns} (h : InsL w va vr x) : InsL w' va vr x := ⟨IntsR.holds hb h.args, IntsR.holds hb h.arrs, h.wn⟩
theorem InsR.holds {b o : Nat} {x : PIns} {va vr : Value} (h : InsR w b o x va vr) : InsR w' b o x va vr :=
  ⟨hb.cell _ _ _ h.op, hb.cell _ _ _ h.d, hb.cell _ _ _ h.fa, hb.cell _ _ _ h.fb, hb.cell _ _ _ h.f, hb.cell _ _ _ h.n, hb.cell _ _ _ h.ca, hb.cell _ _ _ h.cr, InsL.holds hb h.l⟩
theorem CodeR.holds {v : Value} {l : List PIns} (h : CodeR w v l) : CodeR w' v l := SlR.holds h hb fun _ _ _ _ hP x hx => let ⟨va, vr, h⟩ := hP x hx; ⟨va, vr, InsR.holds hb h⟩
theorem EndL.holds {vc vt : Value} {x : PEnd} (h : EndL w vc vt x) : EndL w' vc vt x := ⟨CasesR.holds hb h.cases, IntsR.holds hb h.targets, h.wn⟩
theorem EndR.holds {b o : Nat} {x : PEnd} {vc vt : Value} (h : EndR w b o x vc vt) : EndR w' b o x vc vt :=
  ⟨hb.cell _ _ _ h.kind, hb.cell _ _ _ h.op, hb.cell _ _ _ h.fa, hb.cell _ _ _ h.fb, hb.cell _ _ _ h.n, hb.cell _ _ _ h.to, hb.cell _ _ _ h.els, hb.cell _ _ _ h.cc, hb.cell _ _ _ h.ct, EndL.holds hb h.l⟩
theorem BlkR.holds {b o : Nat} {x : PBlk} {vk vc vt : Value} (h : BlkR w b o x vk vc vt) : BlkR w' b o x vk vc vt := ⟨hb.cell _ _ _ h.ck, CodeR.holds hb h.code, EndR.holds hb h.fin⟩
theorem BlksR.holds {v : Value} {l : List PBlk} (h : BlksR w v l) : BlksR w' v l := SlR.holds h hb fun _ _ _ _ hP x hx => let ⟨vk, vc, vt, h⟩ := hP x hx; ⟨vk, vc, vt, BlkR.holds hb h⟩
theorem GrL.holds {vp va vb : Value} {x : PGr} (h : GrL w vp va vb x) : GrL w' vp va vb x := ⟨IntsR.holds hb h.params, ArrsR.holds hb h.arrays, BlksR.holds hb h.blocks⟩
theorem GrR.holds {b o : Nat} {x : PGr} {vp va vb : Value} (h : GrR w b o x vp va vb) : GrR w' b o x vp va vb := ⟨hb.cell _ _ _ h.cp, hb.cell _ _ _ h.temps, hb.cell _ _ _ h.ca, hb.cell _ _ _ h.cb, GrL.holds hb h.l⟩
theorem GrsR.holds {v : Value} {l : List PGr} (h : GrsR w v l) : GrsR w' v l := SlR.holds h hb fun _ _ _ _ hP x hx => let ⟨vp, va, vb, h⟩ := hP x hx; ⟨vp, va, vb, GrR.holds hb h⟩
theorem ModL.holds {vg va vf : Value} {x : PMod} (h : ModL w vg va vf x) : ModL w' vg va vf x := ⟨WordsR.holds hb h.globals, IntsR.holds hb h.arrays, GrsR.holds hb h.funcs⟩
end
open Classical in
/-- A world cut down: the blocks outside hold nothing. -/
noncomputable def cutW (S : Nat → Prop) (w : World) : World := { w with heap := w.heap.mapIdx fun b o => if S b then o else .cells #[] 0 (0, 0) }
theorem cutW_size (S : Nat → Prop) (w : World) : (cutW S w).heap.size = w.heap.size := by simp [cutW]
theorem cutW_cell {S : Nat → Prop} {w : World} {b o : Nat} {v : Value} : (cutW S w).cell? ⟨b, o, none⟩ = some v ↔ S b ∧ w.cell? ⟨b, o, none⟩ = some v := by
  classical
  unfold World.cell? cutW
  simp only [Array.getElem?_mapIdx]
  by_cases hS : S b
  · cases h : w.heap[b]? with
    | none => simp
    | some ob => simp [hS]
  · cases h : w.heap[b]? with
    | none => simp
    | some ob => simp [hS]
theorem cut_out (S : Nat → Prop) (w : World) : Holds2 (cutW S w) w := ⟨by rw [cutW_size]; exact Nat.le_refl _, fun _ _ _ h => (cutW_cell.1 h).2⟩
/-- What lies within S is as it was where S's blocks are as they were. -/
theorem cut_to {S S' : Nat → Prop} {w w' : World} (hs : w.heap.size ≤ w'.heap.size) (h : ∀ b, b < w.heap.size → S b → S' b ∧ w'.heap[b]? = w.heap[b]?) : Holds2 (cutW S w) (cutW S' w') :=
  ⟨by rw [cutW_size, cutW_size]; exact hs, fun b o v hc => by
    obtain ⟨h1, h2⟩ := cutW_cell.1 hc
    have hl := World.block_lt_of_cell? w _ h2
    obtain ⟨h3, h4⟩ := h b hl h1
    refine cutW_cell.2 ⟨h3, ?_⟩
    rw [← h2]
    unfold World.cell?
    rw [h4]⟩
theorem to_cut {S : Nat → Prop} {w w' : World} (h : Holds2 w w') (hS : ∀ (b o : Nat) (v : Value), w.cell? ⟨b, o, none⟩ = some v → S b) : Holds2 w (cutW S w') :=
  ⟨by rw [cutW_size]; exact h.size, fun b o v hc => cutW_cell.2 ⟨hS b o v hc, h.cell b o v hc⟩⟩
end Go.Proofs.Ytacbfjinellonaa.Graph
