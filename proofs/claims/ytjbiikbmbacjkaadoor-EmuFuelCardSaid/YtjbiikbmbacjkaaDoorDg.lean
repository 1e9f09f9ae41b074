/- The law EmuFuel at any image. No condition but that the program's machine does what the plain one does. -/
import Derived.Test.YtjbiikbmbacjkaaDoorDf
namespace Go.Proofs.YtjbiikbmbacjkaaDoor.Emu
open Go.RowKit Go.Proofs.YtjbiikbmbacjkaaDoor.Enc Go.Proofs.YtjbiikbmbacjkaaDoor.Graph
theorem fuel_any {ar : Int → Int → Int → Option Int} {hs : Int → Int → Int → Bool} (D : DoesRun ar hs) (m : Image) (vw vk vd : Value) (input : List UInt8) (fuel less : Int) (w : World) (h : ImgR w m vw vk vd) (hm : SmI m) (hf : inR fuel) (hl : inR less) (hF : FormsAt w) :
    Calls Tryd.prog 4 #[.agg #[vw, vk, vd, .int .i64 m.entry], .string ⟨input.toArray⟩, .int .i64 fuel, .int .i64 less] w (Is (.bool true) w) := by
  have r1 := pickP_range fuel (n := 30000) (by omega)
  obtain ⟨F, hFF⟩ : ∃ F, F = pickP fuel 30000 := ⟨_, rfl⟩
  rw [← hFF] at r1
  have r2 := pickP_range less (n := F + 1) (by omega)
  obtain ⟨L, hLL⟩ : ∃ L, L = pickP less (F + 1) := ⟨_, rfl⟩
  rw [← hLL] at r2
  have r3 := pickP_range L (n := 100) (by omega)
  obtain ⟨Q, hQQ⟩ : ∃ Q, Q = pickP L 100 := ⟨_, rfl⟩
  rw [← hQQ] at r3
  rcases run_fuels ar hs m input with ⟨er, he, hr⟩ | hr
  · exact fuel_go D m vw vk vd input fuel less w h hm hf hl hF F L Q hFF hLL hQQ noOut noOut noOut er (hr F (by omega)) (hr L (by omega)) (hr (F + Q) (by omega)) (.inl ⟨he, rfl, rfl, rfl⟩) ⟨by simp [noOut], by simp [noOut]⟩
  · obtain ⟨E, hE⟩ : ∃ E : Env, E = ⟨m.words, input, ar, hs⟩ := ⟨_, rfl⟩
    obtain ⟨s, hs0⟩ : ∃ s, s = start E m.data m.entry := ⟨_, rfl⟩
    have hr2 : ∀ f, 0 ≤ f ∧ f ≤ 1073741824 → runP ar hs m input f = (outOf (runN E f.toNat s), 0) := fun f h => by rw [hr f h, hs0, hE]
    have z0 : s.stop = 0 := by rw [hs0]; rfl
    have z1 : s.steps = 0 := by rw [hs0]; rfl
    have z2 : s.bytes = [] := by rw [hs0]; rfl
    have hlF : L.toNat ≤ F.toNat := by omega
    have hFQ : F.toNat ≤ (F + Q).toNat := by omega
    obtain ⟨f1, f2, f3, f4, f5, f6, f7⟩ := fuel_facts (E := E) z0 z1 hlF hFQ
    obtain ⟨a1, a2, _⟩ := any_facts (E := E) z0 z1 z2 F.toNat
    obtain ⟨c1, c2, _⟩ := any_facts (E := E) z0 z1 z2 (F + Q).toNat
    refine fuel_go D m vw vk vd input fuel less w h hm hf hl hF F L Q hFF hLL hQQ _ _ _ 0 (hr2 F (by omega)) (hr2 L (by omega)) (hr2 (F + Q) (by omega)) (.inr ?_) ⟨by omega, by omega⟩
    by_cases h3 : (outOf (runN E F.toNat s)).stop = 3
    · obtain ⟨g1, g2, g3⟩ := f5 (.inl h3)
      exact .inr (.inr ⟨rfl, h3, by rw [f2 h3]; omega, g1, g2, by rw [g3]; omega, f6, f7⟩)
    · obtain ⟨g1, g2⟩ := f1 h3
      by_cases h4 : (outOf (runN E F.toNat s)).steps ≤ L.toNat
      · exact .inl ⟨rfl, h3, by omega, f4 h3 h4, g1, g2, by omega⟩
      · obtain ⟨k1, k2, k3⟩ := f5 (.inr (by omega))
        exact .inr (.inl ⟨rfl, h3, by omega, g1, g2, by omega, k1, k2, by rw [k3]; omega, f6⟩)
end Go.Proofs.YtjbiikbmbacjkaaDoor.Emu
