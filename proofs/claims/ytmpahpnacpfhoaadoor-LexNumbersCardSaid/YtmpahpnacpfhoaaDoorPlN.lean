/- Numbers written in a base, and what is read of them. -/
import Derived.Test.YtmpahpnacpfhoaaDoorPlT
namespace Go.Proofs.YtmpahpnacpfhoaaDoor

def dchr (d : Nat) : UInt8 := if d < 10 then UInt8.ofNat (48 + d) else UInt8.ofNat (87 + d)
def baseF : Nat → Nat → Nat → Bs
  | 0, _, _ => []
  | f + 1, b, n => if n < b then [dchr n] else baseF f b (n / b) ++ [dchr (n % b)]
def baseL (b n : Nat) : Bs := baseF (n + 1) b n

theorem dchr_fin : ∀ d : Fin 16, (dchr d.val).toNat = (if d.val < 10 then 48 + d.val else 87 + d.val) ∧ digN (dchr d.val) = d.val ∧ wordB (dchr d.val) = true := by decide +kernel
theorem dchr_nat {d : Nat} (h : d < 16) : (dchr d).toNat = (if d < 10 then 48 + d else 87 + d) := (dchr_fin ⟨d, h⟩).1
theorem dchr_dig {d : Nat} (h : d < 16) : digN (dchr d) = d := (dchr_fin ⟨d, h⟩).2.1
theorem dchr_word {d : Nat} (h : d < 16) : wordB (dchr d) = true := (dchr_fin ⟨d, h⟩).2.2

theorem baseF_fuel {b : Nat} (hb : 2 ≤ b) : ∀ (f n f' : Nat), n < f → n < f' → baseF f b n = baseF f' b n := by
  intro f
  induction f with
  | zero => intro n f' h; omega
  | succ f ih =>
    intro n f' h h'
    obtain ⟨g, rfl⟩ : ∃ g, f' = g + 1 := ⟨f' - 1, by omega⟩
    simp only [baseF]
    split
    · rfl
    · rename_i hn
      have hlt : n / b < n := Nat.div_lt_self (by omega) (by omega)
      rw [ih (n / b) g (by omega) (by omega)]
theorem baseL_lt {b n : Nat} (h : n < b) : baseL b n = [dchr n] := by
  unfold baseL; simp only [baseF, h, if_true]
theorem baseL_ge {b n : Nat} (hb : 2 ≤ b) (h : ¬ n < b) : baseL b n = baseL b (n / b) ++ [dchr (n % b)] := by
  have hlt : n / b < n := Nat.div_lt_self (by omega) (by omega)
  unfold baseL
  rw [show baseF (n + 1) b n = baseF n b (n / b) ++ [dchr (n % b)] by simp only [baseF, h, if_false]]
  rw [baseF_fuel hb n (n / b) (n / b + 1) (by omega) (by omega)]

theorem baseL_ind {b : Nat} (hb : 2 ≤ b) (C : Nat → Bs → Prop) (h1 : ∀ n, n < b → C n [dchr n]) (h2 : ∀ n l, b ≤ n → C (n / b) l → C n (l ++ [dchr (n % b)])) : ∀ n, C n (baseL b n) := by
  intro n
  induction n using Nat.strongRecOn with
  | _ n ih =>
    by_cases h : n < b
    · rw [baseL_lt h]; exact h1 n h
    · rw [baseL_ge hb h]
      exact h2 n _ (by omega) (ih (n / b) (Nat.div_lt_self (by omega) (by omega)))

theorem baseL_words {b : Nat} (hb : 2 ≤ b) (hb2 : b ≤ 16) (n : Nat) : (∀ c ∈ baseL b n, ∃ d, d < b ∧ c = dchr d) ∧ baseL b n ≠ [] := by
  refine baseL_ind hb (fun _ l => (∀ c ∈ l, ∃ d, d < b ∧ c = dchr d) ∧ l ≠ []) ?_ ?_ n
  · intro n h; exact ⟨by intro c hc; simp at hc; exact ⟨n, h, hc⟩, by simp⟩
  · intro n l h hl
    refine ⟨?_, by simp⟩
    intro c hc
    simp only [List.mem_append, List.mem_cons, List.not_mem_nil, or_false] at hc
    rcases hc with hc | rfl
    · exact hl.1 c hc
    · exact ⟨n % b, Nat.mod_lt _ (by omega), rfl⟩
theorem parseU_snoc (b : Nat) (c : UInt8) : ∀ (l : Bs) (acc : Nat), parseU b acc (l ++ [c]) = (parseU b acc l).bind fun m => if digN c < b ∧ m * b + digN c ≤ 4294967295 then some (m * b + digN c) else none := by
  intro l
  induction l with
  | nil => intro acc; simp only [List.nil_append, parseU, Option.bind_some]
  | cons d l ih =>
    intro acc
    rw [List.cons_append, parseU, parseU]
    split
    · exact ih _
    · rfl
theorem parseU_base {b : Nat} (hb : 2 ≤ b) (hb2 : b ≤ 16) : ∀ n, n ≤ 4294967295 → parseU b 0 (baseL b n) = some n := by
  refine baseL_ind hb (fun n l => n ≤ 4294967295 → parseU b 0 l = some n) ?_ ?_
  · intro n h hn
    rw [parseU, dchr_dig (by omega), if_pos (by omega)]
    simp [parseU]
  · intro n l h ih hn
    have hlt : n / b ≤ n := Nat.div_le_self _ _
    have hm := Nat.mod_lt n (show 0 < b by omega)
    have hdm : n / b * b + n % b = n := by rw [Nat.mul_comm]; exact Nat.div_add_mod n b
    rw [parseU_snoc, ih (by omega), Option.bind_some, dchr_dig (by omega), hdm, if_pos ⟨hm, hn⟩]
theorem baseL_zero {b : Nat} (hb : 2 ≤ b) : baseL b 0 = [48] := by rw [baseL_lt (by omega)]; rfl
/-- The first digit is no 0, but of 0. -/
theorem baseL_head {b : Nat} (hb : 2 ≤ b) (hb2 : b ≤ 16) : ∀ n, n ≠ 0 → ∃ d t, baseL b n = dchr d :: t ∧ d < b ∧ d ≠ 0 := by
  refine baseL_ind hb (fun n l => n ≠ 0 → ∃ d t, l = dchr d :: t ∧ d < b ∧ d ≠ 0) ?_ ?_
  · intro n h hn; exact ⟨n, [], rfl, h, hn⟩
  · intro n l h ih hn
    have : n / b ≠ 0 := by
      have := Nat.div_pos h (by omega); omega
    obtain ⟨d, t, rfl, h1, h2⟩ := ih this
    exact ⟨d, t ++ [dchr (n % b)], by simp, h1, h2⟩

/-- A run of letters and digits that begins with a digit and is a number is that one token. -/
theorem lex_num {c : UInt8} {t : Bs} {v : Nat} {u : Bool} (hc : digitB c = true) (hw : ∀ x ∈ t, wordB x = true) (hn : numL (c :: t) = some (v, u)) (hl : t.length < 20000) :
    ∃ ts, lexAll (c :: t) = (ts, 0, 0) ∧ ts.map (·.1) = [⟨2, [], v, u⟩, endTok] := by
  have hcn := of_decide_eq_true hc
  have hcl : letterB c = false := by unfold letterB; exact decide_eq_false (by omega)
  have hcw : wordB c = true := by simp [wordB, hc]
  have hrun : runLen (c :: t) = (c :: t).length := by
    have := run_join (c :: t) [] (by intro x hx; simp only [List.mem_cons] at hx; rcases hx with rfl | hx; exact hcw; exact hw x hx) rfl
    simpa using this
  have hrd : readL (c :: t) = (⟨2, [], v, u⟩, (c :: t).length, 0) := by
    have hg : (c :: t).getD 0 0 = c := rfl
    unfold readL nmbL
    rw [hg, hcl, hc, hrun, List.take_length, hn]
    rfl
  have hcb : blankB c = false := by unfold blankB; exact decide_eq_false (by omega)
  have h47 : c ≠ 47 := by intro h; subst h; simp at hcn
  have hst : Stops (c :: t) := by
    refine ⟨c, t, rfl, hcb, ?_, ?_⟩
    all_goals
      cases t with
      | nil => simp [Lib.hasPrefix, List.isPrefixOf]
      | cons d t =>
        simp only [Lib.hasPrefix, List.isPrefixOf_cons_cons]
        rw [show ((47 : UInt8) == c) = false by rw [beq_eq_false_iff_ne]; exact fun h => h47 h.symm]
        rfl
  have hx : Lx ([] ++ ((c :: t) ++ [])) [⟨2, [], v, u⟩] :=
    .tok [] (c :: t) [] _ [] .nil (by simpa using hst) (by simp) (by simpa using hrd) (.fin [] (.inl .nil))
  simp only [List.nil_append, List.append_nil] at hx
  obtain ⟨ts, h1, h2⟩ := lx_lexAll hx (by simp; omega) (by simp)
  exact ⟨ts, h1, by rw [h2]; rfl⟩
end Go.Proofs.YtmpahpnacpfhoaaDoor
