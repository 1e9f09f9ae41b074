/- The law EmuAny at any words. No condition but that the program's machine does what the plain one does. -/
import Derived.Test.YtjbiikbmbacjkaaDoorDy
namespace Go.Proofs.YtjbiikbmbacjkaaDoor.Emu
open Go.RowKit Go.Proofs.YtjbiikbmbacjkaaDoor.Enc Go.Proofs.YtjbiikbmbacjkaaDoor.Graph
theorem any_any {ar : Int → Int → Int → Option Int} {hs : Int → Int → Int → Bool} (D : DoesRun ar hs) (words data : List Int) (vw vd : Value) (input : List UInt8) (entry fuel : Int) (w : World) (hw : WordsR w vw words) (hd : WordsR w vd data)
    (h1 : ∀ x ∈ words, 0 ≤ x ∧ x ≤ 4294967295) (h2 : ∀ x ∈ data, 0 ≤ x ∧ x ≤ 4294967295) (he : inR entry) (hf : inR fuel) (hF : FormsAt w) :
    Calls Tryd.prog 6 #[vw, vd, .int .i64 entry, .string ⟨input.toArray⟩, .int .i64 fuel] w (Is (.bool true) w) := by
  have hin : (⟨input.toArray⟩ : ByteArray).size = input.length := by show input.toArray.size = _; simp
  by_cases h : words.length = 0 ∨ 65536 < words.length ∨ 524288 < data.length ∨ 10000 < input.length
  · have l1 := sl_len hw
    have l2 := sl_len hd
    obtain ⟨pw, cw, rfl⟩ := hw.form
    obtain ⟨pd, cd, rfl⟩ := hd.form
    exact any_no D _ _ pw pd cw cd _ entry fuel w hf hF l1 l2 (by rw [hin]; exact h)
  · exact any_do D words data vw vd input entry fuel w hw hd h1 h2 he hf hF (by omega) (by omega) (by omega) (by omega)
end Go.Proofs.YtjbiikbmbacjkaaDoor.Emu
