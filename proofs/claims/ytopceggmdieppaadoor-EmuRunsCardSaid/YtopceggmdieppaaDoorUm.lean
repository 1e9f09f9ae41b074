/- The document's machine: one step. No condition. -/
import Derived.Test.YtopceggmdieppaaDoorUg
import Derived.Test.YtopceggmdieppaaDoorKG
import Derived.Test.YtopceggmdieppaaDoorKH
namespace Go.Proofs.YtopceggmdieppaaDoor.Emu
open Go.RowKit Go.Proofs.YtopceggmdieppaaDoor.Enc Go.Proofs.YtopceggmdieppaaDoor.Graph

section
variable {x : Dz} {E : Env} {w w' w1 w2 : World} {m : M} {back buf : Value}
set_option maxHeartbeats 4000000 in
set_option maxRecDepth 100000 in
theorem sd_none (h : Sd x E w w' m back buf) (hlt : ¬ (0 ≤ m.place ∧ m.place < E.words.length)) :
    Calls Tryd.prog 47 #[.pointer (some ⟨x.bm, 0, none⟩)] w' fun e w2 => e = .returned (.tuple #[]) ∧ ∃ back' buf', Sd x E w w2 (trap m 5) back' buf' := by
  obtain ⟨c17, f17⟩ := h.cell (k := 17) (by decide)
  change _ = some (Value.int .i64 m.place) at c17
  have hlm := h.lm
  have HB := Lib.hid (wordD_no h m.place hlt)
  clear h hlt
  generalize m.place = p at *
  go_enter Tryd.func47, Tryd.ntmps47
  go_wp2_with (go_at_call 72; refine HB.out.mono ?_; rintro e w1 ⟨rfl, h1⟩; have H1 := Lib.hid h1; clear h1)
  refine bodyPost_ret (results_none rfl _ _ _) rfl ?_
  exact ⟨rfl, _, _, H1.out⟩
set_option maxHeartbeats 4000000 in
set_option maxRecDepth 100000 in
theorem sd_bad (h : Sd x E w w' m back buf) (hE : EnvOk E) (hlt : 0 ≤ m.place ∧ m.place < E.words.length) (he : (decP (E.words.getD m.place.toNat 0)).2 ≠ 0) :
    Calls Tryd.prog 47 #[.pointer (some ⟨x.bm, 0, none⟩)] w' fun e w2 => e = .returned (.tuple #[]) ∧ ∃ back' buf', Sd x E w w2 (trap m 4) back' buf' := by
  obtain ⟨c17, f17⟩ := h.cell (k := 17) (by decide)
  change _ = some (Value.int .i64 m.place) at c17
  have hlm := h.lm
  have HB := Lib.hid (wordD_ok h m.place hlt)
  obtain ⟨v0, v1⟩ := isW_getD hE.words m.place.toNat
  generalize E.words.getD m.place.toNat 0 = v at *
  have HD := Lib.hid (rdec_any v ⟨v0, by omega⟩ w')
  have HT := Lib.hid (fun (W : World) (hW : Below w'.heap.size w' W) => stop_d (h.go hW) 2 4)
  clear h hlt hE
  unfold DecPost at HD
  generalize (decP v).2 = er at *
  generalize (decP v).1 = c at *
  obtain ⟨c1, c2, c3, c4⟩ := c
  generalize m.place = p at *
  go_enter Tryd.func47, Tryd.ntmps47
  go_wp2_with (first
    | (go_at_call 72; refine HB.out.mono ?_; rintro e w1 ⟨rfl, rfl⟩)
    | (go_at_call 73; refine HD.out.mono ?_; rintro e w1 ⟨rfl, hb1⟩; have HB1 := Lib.hid hb1; have hz1 := hb1.size; clear hb1)
    | (go_at_call 46; refine (HT.out _ (HB1.out.trans ((below_one _ _).mono hz1))).mono ?_; rintro e w2 ⟨rfl, h2⟩; have H2 := Lib.hid h2; clear h2))
  refine bodyPost_ret (results_none rfl _ _ _) rfl ?_
  exact ⟨rfl, _, _, H2.out⟩
set_option maxHeartbeats 4000000 in
set_option maxRecDepth 100000 in
theorem sd_plain (h : Sd x E w w' m back buf) (hI : Inv m) (hE : EnvOk E) (hbl : m.bytes.length ≤ 1073741824) (hA : DArith E.ar) (hlt : 0 ≤ m.place ∧ m.place < E.words.length) (he : (decP (E.words.getD m.place.toNat 0)).2 = 0) {m1 : M} (hs : plainStep E m (decP (E.words.getD m.place.toNat 0)).1 = some m1) :
    Calls Tryd.prog 47 #[.pointer (some ⟨x.bm, 0, none⟩)] w' fun e w2 => e = .returned (.tuple #[]) ∧ ∃ back' buf', Sd x E w w2 { m1 with place := m.place + 1 } back' buf' := by
  obtain ⟨c17, f17⟩ := h.cell (k := 17) (by decide)
  change _ = some (Value.int .i64 m.place) at c17
  have hlm := h.lm
  have HB := Lib.hid (wordD_ok h m.place hlt)
  have hmay := dec_may he
  obtain ⟨v0, v1⟩ := isW_getD hE.words m.place.toNat
  generalize E.words.getD m.place.toNat 0 = v at *
  have HD := Lib.hid (rdec_any v ⟨v0, by omega⟩ w')
  unfold DecPost at HD
  rw [he] at HD
  clear he
  generalize (decP v).1 = c at *
  have HT := Lib.hid (fun (W : World) (hW : Below w'.heap.size w' W) => (plain_d (h.go hW) hI hE.inp hbl hA c hmay).mono fun e w2 hp => (show e = .returned (.bool true) ∧ ∃ back' buf', Sd x E w w2 m1 back' buf' from by
    rcases hp with ⟨m', h1, h2⟩ | ⟨h1, _⟩
    · rw [hs] at h1; injection h1 with h1; subst h1; exact h2
    · rw [hs] at h1; cases h1))
  have HC := Lib.hid (fun (W : World) (b f : Value) (hW : Sd x E w W m1 b f) => (show W.cell? ⟨x.bm, 17, none⟩ = some (.int .i64 m1.place) ∧ W.frozen? ⟨x.bm, 17, none⟩ = false from hW.cell (k := 17) (by decide)))
  have HS := Lib.hid (fun (W : World) (b f : Value) (hW : Sd x E w W m1 b f) => hW.setPlace (m.place + 1))
  have hL := hE.len
  obtain ⟨p0, p1⟩ := hlt
  have p2 : m.place < 65536 := by omega
  clear h hI hE hbl hA hs hmay hL p1
  obtain ⟨c1, c2, c3, c4⟩ := c
  generalize m.place = p at *
  go_enter Tryd.func47, Tryd.ntmps47
  go_wp2_with (first
    | (go_at_call 72; refine HB.out.mono ?_; rintro e w1 ⟨rfl, rfl⟩)
    | (go_at_call 73; refine HD.out.mono ?_; rintro e w1 ⟨rfl, hb1⟩; have HB1 := Lib.hid hb1; have hz1 := hb1.size; have hq1 := (bcell hb1).1 x.bm 17 hlm; have hq2 := (bcell hb1).2 x.bm 17 hlm; rw [c17] at hq1; rw [f17] at hq2; have hlm1 := Nat.lt_of_lt_of_le hlm hz1; clear hb1)
    | (go_at_call 74; refine (HT.out _ (HB1.out.trans ((below_one _ _).mono hz1))).mono ?_; rintro e w2 ⟨rfl, b2, f2, h2⟩; obtain ⟨d17, e17⟩ := HC.out _ _ _ h2; have hl2 := h2.lm; have H2 := Lib.hid h2; clear h2))
  refine bodyPost_ret (results_none rfl _ _ _) rfl ?_
  exact ⟨rfl, _, _, HS.out _ _ _ H2.out⟩
set_option maxHeartbeats 4000000 in
set_option maxRecDepth 100000 in
theorem sd_goes (h : Sd x E w w' m back buf) (hI : Inv m) (hE : EnvOk E) (hbl : m.bytes.length ≤ 1073741824) (hA : DArith E.ar) (hT : DHolds E.holds) (hlt : 0 ≤ m.place ∧ m.place < E.words.length) (he : (decP (E.words.getD m.place.toNat 0)).2 = 0) (hs : plainStep E m (decP (E.words.getD m.place.toNat 0)).1 = none) :
    Calls Tryd.prog 47 #[.pointer (some ⟨x.bm, 0, none⟩)] w' fun e w2 => e = .returned (.tuple #[]) ∧ ∃ back' buf', Sd x E w w2 (goesStep E m (decP (E.words.getD m.place.toNat 0)).1 (m.place + 1)) back' buf' := by
  obtain ⟨c17, f17⟩ := h.cell (k := 17) (by decide)
  change _ = some (Value.int .i64 m.place) at c17
  have hlm := h.lm
  have HB := Lib.hid (wordD_ok h m.place hlt)
  have hmay := dec_may he
  obtain ⟨v0, v1⟩ := isW_getD hE.words m.place.toNat
  generalize E.words.getD m.place.toNat 0 = v at *
  have HD := Lib.hid (rdec_any v ⟨v0, by omega⟩ w')
  unfold DecPost at HD
  rw [he] at HD
  clear he
  generalize (decP v).1 = c at *
  have HT := Lib.hid (fun (W : World) (hW : Below w'.heap.size w' W) => (plain_d (h.go hW) hI hE.inp hbl hA c hmay).mono fun e w2 hp => (show e = .returned (.bool false) ∧ Sd x E w w2 m back buf ∧ Below W.heap.size W w2 from by
    rcases hp with ⟨m', h1, h2⟩ | ⟨_, h1⟩
    · rw [hs] at h1; cases h1
    · exact h1))
  have hL := hE.len
  have hq : 0 ≤ m.place + 1 ∧ m.place + 1 ≤ 65536 := ⟨by omega, by omega⟩
  have HG := Lib.hid (fun (W : World) (hW : Sd x E w W m back buf) => goes_d hW hI hE hT c hmay hs (m.place + 1) hq)
  obtain ⟨p0, p1⟩ := hlt
  have p2 : m.place < 65536 := by omega
  clear h hI hE hbl hA hs hmay hL p1 hq hT
  generalize goesStep E m c (m.place + 1) = mo at *
  obtain ⟨c1, c2, c3, c4⟩ := c
  generalize m.place = p at *
  go_enter Tryd.func47, Tryd.ntmps47
  go_wp2_with (first
    | (go_at_call 72; refine HB.out.mono ?_; rintro e w1 ⟨rfl, rfl⟩)
    | (go_at_call 73; refine HD.out.mono ?_; rintro e w1 ⟨rfl, hb1⟩; have HB1 := Lib.hid hb1; have hz1 := hb1.size; have hq1 := (bcell hb1).1 x.bm 17 hlm; have hq2 := (bcell hb1).2 x.bm 17 hlm; rw [c17] at hq1; rw [f17] at hq2; have hlm1 := Nat.lt_of_lt_of_le hlm hz1; clear hb1)
    | (go_at_call 74; refine (HT.out _ (HB1.out.trans ((below_one _ _).mono hz1))).mono ?_; rintro e w2 ⟨rfl, h2, hb2⟩; have hk0 : w2.cell? ⟨w1.heap.size, 0, none⟩ = some (.int .i64 c1) := ((bcell hb2).1 w1.heap.size 0 (by simp)).trans (by go_simp); have hk1 : w2.cell? ⟨w1.heap.size, 1, none⟩ = some (.int .i64 c2) := ((bcell hb2).1 w1.heap.size 1 (by simp)).trans (by go_simp); have hk2 : w2.cell? ⟨w1.heap.size, 2, none⟩ = some (.int .i64 c3) := ((bcell hb2).1 w1.heap.size 2 (by simp)).trans (by go_simp); have hk3 : w2.cell? ⟨w1.heap.size, 3, none⟩ = some (.int .i64 c4) := ((bcell hb2).1 w1.heap.size 3 (by simp)).trans (by go_simp); have hl2 : w1.heap.size < w2.heap.size := (by have := hb2.size; simp at this; omega); have H2 := Lib.hid h2; clear h2 hb2)
    | (go_at_call 75; refine (HG.out _ H2.out).mono ?_; rintro e w3 ⟨rfl, b3, f3, h3⟩; have H3 := Lib.hid h3; clear h3))
  go_end0
  exact ⟨rfl, _, _, H3.out⟩
theorem step_d (h : Sd x E w w' m back buf) (hI : Inv m) (hE : EnvOk E) (hbl : m.bytes.length ≤ 1073741824) (hA : DArith E.ar) (hT : DHolds E.holds) :
    Calls Tryd.prog 47 #[.pointer (some ⟨x.bm, 0, none⟩)] w' fun e w2 => e = .returned (.tuple #[]) ∧ ∃ back' buf', Sd x E w w2 (stepP E m) back' buf' := by
  by_cases hlt : 0 ≤ m.place ∧ m.place < E.words.length
  · by_cases he : (decP (E.words.getD m.place.toNat 0)).2 = 0
    · have hst : stepP E m = (match plainStep E m (decP (E.words.getD m.place.toNat 0)).1 with | some m' => { m' with place := m.place + 1 } | none => goesStep E m (decP (E.words.getD m.place.toNat 0)).1 (m.place + 1)) := by
        unfold stepP; rw [wordAt_some hlt]; simp only; rw [if_pos he]; cases plainStep E m (decP (E.words.getD m.place.toNat 0)).1 <;> rfl
      rw [hst]
      cases hs : plainStep E m (decP (E.words.getD m.place.toNat 0)).1 with
      | some m1 => exact sd_plain h hI hE hbl hA hlt he hs
      | none => exact sd_goes h hI hE hbl hA hT hlt he hs
    · rw [step_bad hlt he]; exact sd_bad h hE hlt he
  · rw [step_none hlt]; exact sd_none h hlt
end
end Go.Proofs.YtopceggmdieppaaDoor.Emu
