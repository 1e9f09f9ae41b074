/- The displacements of branches that are all short, and which of them are far: the program's own answer. -/
import Derived.Test.YtmnhafncdblklaaDoorAm
namespace Go.Proofs.YtmnhafncdblklaaDoor.Relax
open Go.RowKit Go.Proofs.YtmnhafncdblklaaDoor.Enc Go.Proofs.YtmnhafncdblklaaDoor.Graph

/-- A row of numbers of one's own. -/
def natVs (F : List Nat) : List Value := F.map fun (n : Nat) => Value.int .i64 (n : Int)
def NatsR (w : World) (B : Nat) (v : Value) (F : List Nat) : Prop := w.ownsRow B 3 1 v F.length (natVs F)
theorem NatsR.below {w w' : World} {B : Nat} {v : Value} {F : List Nat} (h : NatsR w B v F) (hb : Below w.heap.size w w') : NatsR w' B v F :=
  World.ownsRow.kept (row := none) h ⟨hb.os, hb.tape, hb.output, hb.size, fun i hi _ => hb.block i hi⟩ (by cases v.ownBlock <;> simp)
theorem NatsR.form {w : World} {B : Nat} {v : Value} {F : List Nat} (h : NatsR w B v F) : ∃ p c, v = .slice p F.length c := by
  obtain ⟨_, ⟨rfl, h⟩ | ⟨g, cap, cur, rfl, _⟩⟩ := h
  · exact ⟨none, 0, by rw [h]⟩
  · exact ⟨_, _, rfl⟩
theorem NatsR.at_ {w : World} {B n c : Nat} {p : Option Addr} {F : List Nat} (h : NatsR w B (.slice p n c) F) {k : Nat} (hk : k < F.length) :
    ∃ g x, p = some ⟨g, 0, none⟩ ∧ F[k]? = some x ∧ B ≤ g ∧ g < w.heap.size ∧ F.length ≤ c ∧ c ≤ 9223372036854775807 ∧ w.cell? ⟨g, k, none⟩ = some (.int .i64 (x : Int)) := by
  obtain ⟨g, cap, h1, h2, h3, h4, h5, h6⟩ := row_at h (by omega)
  injection h1 with h1 h7 h8
  subst h1 h8
  obtain ⟨x, hx⟩ : ∃ x, F[k]? = some x := ⟨_, List.getElem?_eq_getElem hk⟩
  exact ⟨g, x, rfl, hx, h2, h5, h3, h4, h6 _ _ (by unfold natVs; rw [List.getElem?_map, hx]; rfl)⟩
theorem one_news {w : World} {b : Nat} {x : Value} (h0 : w.cell? ⟨b, 0, none⟩ = some x) : ∀ j u, [x][j]? = some u → w.cell? ((⟨b, 0, none⟩ : Addr).add j) = some u := fun j u hu => by
  rw [Go.WideShapes.add_plain, Nat.zero_add]
  match j, hu with
  | 0, hu => injection hu with hu; subst hu; exact h0
  | j + 1, hu => simp at hu
/-- A number appended. -/
theorem wpList_append_nat {w : World} {ops : Array Oper} {rest : List Oper} {o : Oper} {a : Act} {Q : Exit → Act → World → Prop} (hgd : o.guard = none) (s x : Operand)
    (ho : o.op = .call { callee := .builtin .append, args := #[s, x], argTypes := #[25, 25] }) (B : Nat) (v : Value) (F : List Nat) (q : Nat) (hs : a.eval s = v)
    (hown : NatsR w B v F) (ad : Addr) (c : Nat) (hx : a.eval x = .slice (some ad) 1 c)
    (hnews : ∀ j u, [Value.int .i64 (q : Int)][j]? = some u → w.cell? (ad.add j) = some u) (h64 : F.length ≤ 1000000) (hB : B ≤ w.heap.size)
    (h : ∀ v' w', NatsR w' B v' (F ++ [q]) → Below B w w' → w.grownBy w' v.ownBlock → wpList Tryd.prog ops Q rest (a.put o.dst v') w') : wpList Tryd.prog ops Q (o :: rest) a w := by
  obtain ⟨i0, HI, hz0, hz1, hz2⟩ := info_parts info_intA
  refine wpList_append_own_wide w hgd s x 25 ho B 3 i0 _ 1 8 Tryd.underlying25 HI hz0 hz1 hz2 rfl (by omega) v F.length (natVs F) hs hown ad 1 c [.int .i64 (q : Int)] hx rfl hnews (fun u hu => ?_) (by unfold maxLen; omega) (by omega) hB ?_
  · have : u = .int .i64 (q : Int) := by simpa using hu
    subst this; rfl
  · intro v' w' h2 h3 _
    refine h v' w' ?_ (Below.grown (Below.refl _ _) h3 hB (fun k hk => (hown.lt k hk).1)) h3
    unfold NatsR
    rw [List.length_append]
    have e : natVs (F ++ [q]) = natVs F ++ [.int .i64 (q : Int)] := by unfold natVs; rw [List.map_append]; rfl
    rw [e]; exact h2
theorem stR_none (ps : List PP) : ∀ k, stR ps (fun _ => 0) k = stS ps [] k
  | 0 => rfl
  | k + 1 => by
    show stR ps (fun _ => 0) k + wdR (partAt ps k) 0 = stS ps [] k + wdS ps [] k
    rw [stR_none ps k]
    unfold wdR wdS
    rw [if_pos (by rfl)]; simp
/-- The reaches when so many were worked out; which of these are far. -/
def measR (ps : List PP) (k : Nat) : Nat → Int := fun j => if j < k ∧ (partAt ps j).more ≠ 0 then dispS ps [] j else 0
def farN (ps : List PP) : Nat → List Nat
  | 0 => []
  | k + 1 => farN ps k ++ (if (partAt ps k).more ≠ 0 ∧ nearB (dispS ps [] k) = false then [k] else [])
theorem farN_len (ps : List PP) : ∀ k, (farN ps k).length ≤ k
  | 0 => Nat.le_refl _
  | k + 1 => by
    have := farN_len ps k
    show (farN ps k ++ _).length ≤ _
    rw [List.length_append]
    split <;> simp <;> omega
theorem farN_mem (ps : List PP) (i : Nat) : ∀ k, i ∈ farN ps k ↔ i < k ∧ (partAt ps i).more ≠ 0 ∧ nearB (dispS ps [] i) = false
  | 0 => by simp [farN]
  | k + 1 => by
    show i ∈ farN ps k ++ _ ↔ _
    rw [List.mem_append, farN_mem ps i k]
    constructor
    · rintro (h | h)
      · exact ⟨by omega, h.2⟩
      · split at h
        · rename_i h2
          have : i = k := by simpa using h
          subst this
          exact ⟨by omega, h2⟩
        · cases h
    · rintro ⟨h1, h2⟩
      rcases Nat.lt_or_ge i k with h3 | h3
      · exact .inl ⟨h3, h2⟩
      · obtain rfl : i = k := by omega
        right; rw [if_pos h2]; simp
theorem farN_nodup (ps : List PP) : ∀ k, (farN ps k).Nodup
  | 0 => List.nodup_nil
  | k + 1 => by
    show (farN ps k ++ _).Nodup
    rw [List.nodup_append]
    refine ⟨farN_nodup ps k, by split <;> simp, fun a ha b hb => ?_⟩
    have h1 := ((farN_mem ps a k).1 ha).1
    split at hb
    · have : b = k := by simpa using hb
      omega
    · cases hb
theorem meas_ri {ps : List PP} (hw : WF ps) : RS ps [] (farN ps ps.length) (measR ps ps.length) := by
  refine ⟨⟨fun i hi hm => ?_, fun i hi hm hW => ?_, fun i hi hm hW => ?_, fun i hi => ?_⟩, by simpa using farN_nodup ps _, fun i => ?_⟩
  · unfold measR; rw [if_neg (by simp [hm])]
  · unfold measR; rw [if_pos ⟨hi, hm⟩]
  · unfold measR
    rw [if_pos ⟨hi, hm⟩]
    have := not_inW hw [] hi hm hW
    unfold nearB at this
    simp only [decide_eq_false_iff_not] at this
    refine ⟨fun h => ?_, fun h => ?_⟩
    · have := disp_fwd hw [] hi hm h; omega
    · have := disp_bwd hw [] hi hm h; omega
  · unfold measR
    simp only [List.length_nil]
    split
    · rename_i h
      by_cases h1 : (i : Int) < (partAt ps i).to
      · have := disp_fwd hw [] hi h.2 h1; omega
      · have := disp_bwd hw [] hi h.2 (by omega); omega
    · omega
  · rw [List.nil_append, farN_mem]
    constructor
    · rintro ⟨h1, h2, h3⟩
      exact ⟨h1, h2, by unfold measR; rw [if_pos ⟨h1, h2⟩]; exact h3⟩
    · rintro ⟨h1, h2, h3⟩
      unfold measR at h3
      rw [if_pos ⟨h1, h2⟩] at h3
      exact ⟨h1, h2, h3⟩
theorem meas_turn {ps : List PP} {k : Nat} (hm : (partAt ps k).more ≠ 0) : measR ps (k + 1) = turnR (measR ps k) k (dispS ps [] k) := by
  funext j
  unfold turnR measR
  by_cases h : j = k
  · subst h; rw [if_pos rfl, if_pos ⟨by omega, hm⟩]
  · rw [if_neg h]
    by_cases h1 : j < k ∧ (partAt ps j).more ≠ 0
    · rw [if_pos h1, if_pos ⟨by omega, h1.2⟩]
    · rw [if_neg h1, if_neg (fun h2 => h1 ⟨by omega, h2.2⟩)]
theorem meas_stay {ps : List PP} {k : Nat} (hm : (partAt ps k).more = 0) : measR ps (k + 1) = measR ps k := by
  funext j
  unfold measR
  by_cases h1 : j < k ∧ (partAt ps j).more ≠ 0
  · rw [if_pos h1, if_pos ⟨by omega, h1.2⟩]
  · rw [if_neg h1, if_neg (fun h2 => h1 ⟨by
      rcases Nat.lt_or_ge j k with h3 | h3
      · exact h3
      · have : j = k := by omega
        subst this; exact absurd hm h2.2, h2.2⟩)]
def MeasPost (ps : List PP) (B : Nat) (v : Value) (w : World) (e : Ending) (w' : World) : Prop :=
  ∃ vf F r, e = .returned vf ∧ RS ps [] F r ∧ PartsR w' B v ps r ∧ NatsR w' w.heap.size vf F ∧ Below B w w'
end Go.Proofs.YtmnhafncdblklaaDoor.Relax
