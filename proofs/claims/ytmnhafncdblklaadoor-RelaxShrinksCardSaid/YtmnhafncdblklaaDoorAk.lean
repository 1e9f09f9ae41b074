/- The row of parts, as it lies: cells, stores, one part more. No condition. -/
import Derived.Test.YtmnhafncdblklaaDoorAj
import Derived.Test.YtmnhafncdblklaaDoorLs
namespace Go.Proofs.YtmnhafncdblklaaDoor.Relax
open Go.RowKit Go.Proofs.YtmnhafncdblklaaDoor.Enc Go.Proofs.YtmnhafncdblklaaDoor.Graph

def partCs (p : PP) (r : Int) : List Value := [iv p.line, iv p.short, iv p.more, iv p.to, iv r]
def flatN (ps : List PP) (r : Nat → Int) : Nat → List Value
  | 0 => []
  | n + 1 => flatN ps r n ++ partCs (partAt ps n) (r n)
def flatP (ps : List PP) (r : Nat → Int) : List Value := flatN ps r ps.length
theorem flatN_len (ps : List PP) (r : Nat → Int) : ∀ n, (flatN ps r n).length = n * 5
  | 0 => rfl
  | n + 1 => by
    show (flatN ps r n ++ _).length = _
    rw [List.length_append, flatN_len ps r n]
    show n * 5 + 5 = (n + 1) * 5
    omega
theorem flatN_get (ps : List PP) (r : Nat → Int) (k j : Nat) (hj : j < 5) : ∀ n, k < n → (flatN ps r n)[k * 5 + j]? = (partCs (partAt ps k) (r k))[j]?
  | 0, h => absurd h (by omega)
  | n + 1, h => by
    show (flatN ps r n ++ _)[k * 5 + j]? = _
    rcases Nat.lt_or_ge k n with h1 | h1
    · rw [List.getElem?_append_left (by rw [flatN_len]; omega)]
      exact flatN_get ps r k j hj n h1
    · obtain rfl : k = n := by omega
      rw [List.getElem?_append_right (by rw [flatN_len]; omega), flatN_len]
      congr 1; omega
theorem flatN_ext {ps qs : List PP} {r s : Nat → Int} : ∀ n, (∀ k, k < n → partAt ps k = partAt qs k ∧ r k = s k) → flatN ps r n = flatN qs s n
  | 0, _ => rfl
  | n + 1, h => by
    show flatN ps r n ++ _ = flatN qs s n ++ _
    rw [flatN_ext n (fun k hk => h k (by omega)), (h n (by omega)).1, (h n (by omega)).2]
theorem partAt_app (ps : List PP) (p : PP) {k : Nat} (h : k < ps.length) : partAt (ps ++ [p]) k = partAt ps k := by
  unfold partAt
  rw [List.getD_eq_getElem?_getD, List.getD_eq_getElem?_getD, List.getElem?_append_left h]
theorem partAt_new (ps : List PP) (p : PP) : partAt (ps ++ [p]) ps.length = p := by
  unfold partAt
  rw [List.getD_eq_getElem?_getD, List.getElem?_append_right (Nat.le_refl _)]; simp
theorem flatP_app (ps : List PP) (p : PP) (r : Nat → Int) : flatP (ps ++ [p]) r = flatP ps r ++ partCs p (r ps.length) := by
  unfold flatP
  rw [List.length_append]
  show flatN (ps ++ [p]) r ps.length ++ partCs (partAt (ps ++ [p]) ps.length) _ = _
  rw [partAt_new, flatN_ext (qs := ps) (s := r) _ (fun k hk => ⟨partAt_app ps p hk, rfl⟩)]
theorem flatP_len (ps : List PP) (r : Nat → Int) : (flatP ps r).length = ps.length * 5 := flatN_len ps r _
theorem flatN_set (ps : List PP) (r : Nat → Int) (i : Nat) (v : Int) : ∀ n, (flatN ps r n).set (i * 5 + 4) (iv v) = flatN ps (turnR r i v) n
  | 0 => rfl
  | n + 1 => by
    show (flatN ps r n ++ partCs (partAt ps n) (r n)).set (i * 5 + 4) (iv v) = flatN ps (turnR r i v) n ++ partCs (partAt ps n) (turnR r i v n)
    rw [← flatN_set ps r i v n]
    rcases Nat.lt_or_ge i n with h1 | h1
    · rw [List.set_append_left _ _ (by rw [flatN_len]; omega), turnR_other _ _ (by omega : n ≠ i)]
    · rw [List.set_append_right _ _ (by rw [flatN_len]; omega), flatN_len]
      have e1 : (flatN ps r n).set (i * 5 + 4) (iv v) = flatN ps r n := List.set_eq_of_length_le (by rw [flatN_len]; omega)
      rw [e1]
      rcases Nat.eq_or_lt_of_le h1 with h2 | h2
      · subst h2
        rw [turnR_same, show n * 5 + 4 - n * 5 = 4 by omega]; rfl
      · rw [turnR_other _ _ (by omega : n ≠ i)]
        rw [List.set_eq_of_length_le (by show 5 ≤ _; omega)]
theorem flatP_set (ps : List PP) (r : Nat → Int) (i : Nat) (v : Int) : (flatP ps r).set (i * 5 + 4) (iv v) = flatP ps (turnR r i v) := flatN_set ps r i v _
/-- The row of parts, in a block of one's own. -/
def PartsR (w : World) (B : Nat) (v : Value) (ps : List PP) (r : Nat → Int) : Prop := w.ownsRow B 70 5 v ps.length (flatP ps r)
theorem info_part : (Tryd.prog.info? 70).map (fun i => (i.zero, i.size, i.bytes)) = some (some (.agg #[.int .i64 0, .int .i64 0, .int .i64 0, .int .i64 0, .int .i64 0]), 5, 40) := by kernel_rfl
theorem zpart_size : (Value.agg #[.int .i64 0, .int .i64 0, .int .i64 0, .int .i64 0, .int .i64 0]).cells.size = 5 := by kernel_rfl
theorem PartsR.form {w : World} {B : Nat} {v : Value} {ps : List PP} {r : Nat → Int} (h : PartsR w B v ps r) : ∃ p c, v = .slice p ps.length c := by
  obtain ⟨_, ⟨rfl, h⟩ | ⟨g, cap, cur, rfl, _⟩⟩ := h
  · exact ⟨none, 0, by rw [h]⟩
  · exact ⟨_, _, rfl⟩
/-- A part of the row. -/
theorem PartsR.at_ {w : World} {B n c : Nat} {p : Option Addr} {ps : List PP} {r : Nat → Int} (h : PartsR w B (.slice p n c) ps r) {k : Nat} (hk : k < ps.length) :
    ∃ g, p = some ⟨g, 0, none⟩ ∧ B ≤ g ∧ g < w.heap.size ∧ ps.length ≤ c ∧ c ≤ 9223372036854775807 ∧
      w.cell? ⟨g, k * 5, none⟩ = some (.int .i64 (partAt ps k).line) ∧ w.cell? ⟨g, k * 5 + 1, none⟩ = some (.int .i64 (partAt ps k).short) ∧ w.cell? ⟨g, k * 5 + 2, none⟩ = some (.int .i64 (partAt ps k).more) ∧
      w.cell? ⟨g, k * 5 + 3, none⟩ = some (.int .i64 (partAt ps k).to) ∧ w.cell? ⟨g, k * 5 + 4, none⟩ = some (.int .i64 (r k)) ∧ w.frozen? ⟨g, k * 5 + 4, none⟩ = false := by
  obtain ⟨g, cap, h1, h2, h3, h4, h5, h6⟩ := row_at h (by omega)
  injection h1 with h1 h7 h8
  subst h1 h8
  have hc : ∀ j u, j < 5 → (partCs (partAt ps k) (r k))[j]? = some u → w.cell? ⟨g, k * 5 + j, none⟩ = some u := fun j u hj hu => h6 _ _ (by rw [← hu]; exact flatN_get ps r k j hj _ hk)
  subst h7
  exact ⟨g, rfl, h2, h5, h3, h4, hc 0 _ (by omega) rfl, hc 1 _ (by omega) rfl, hc 2 _ (by omega) rfl, hc 3 _ (by omega) rfl, hc 4 _ (by omega) rfl, World.ownsRow.frozenAt h _⟩
/-- A reach stored. -/
theorem PartsR.stored {w : World} {B g n c : Nat} {ps : List PP} {r : Nat → Int} (h : PartsR w B (.slice (some ⟨g, 0, none⟩) n c) ps r) (hn : n = ps.length) (k : Nat) (v : Int) :
    PartsR (w.setCell ⟨g, k * 5 + 4, none⟩ (.int .i64 v)) B (.slice (some ⟨g, 0, none⟩) n c) ps (turnR r k v) := by
  subst hn
  have := (World.ownsRow.stored h (k * 5 + 4) (.int .i64 v)).1
  unfold PartsR
  rw [← flatP_set]; exact this
/-- A part appended. -/
theorem wpList_append_part {w : World} {ops : Array Oper} {rest : List Oper} {o : Oper} {a : Act} {Q : Exit → Act → World → Prop} (hgd : o.guard = none) (s x : Operand)
    (ho : o.op = .call { callee := .builtin .append, args := #[s, x], argTypes := #[63, 63] }) (B : Nat) (v : Value) (ps : List PP) (q : PP) (hs : a.eval s = v)
    (hown : PartsR w B v ps (fun _ => 0)) (ad : Addr) (c : Nat) (hx : a.eval x = .slice (some ad) 1 c)
    (hnews : ∀ j u, (partCs q 0)[j]? = some u → w.cell? (ad.add j) = some u) (h64 : ps.length ≤ 1000000) (hB : B ≤ w.heap.size)
    (h : ∀ v' w', PartsR w' B v' (ps ++ [q]) (fun _ => 0) → Below B w w' → w.grownBy w' v.ownBlock → wpList Tryd.prog ops Q rest (a.put o.dst v') w') : wpList Tryd.prog ops Q (o :: rest) a w := by
  obtain ⟨i0, HI, hz0, hz1, hz2⟩ := info_parts info_part
  refine wpList_append_own_wide w hgd s x 63 ho B 70 i0 _ 5 40 Tryd.underlying63 HI hz0 hz1 hz2 zpart_size (by omega) v ps.length (flatP ps (fun _ => 0)) hs hown ad 1 c (partCs q 0) hx rfl hnews (fun u hu => ?_) (by unfold maxLen; omega) (by omega) hB ?_
  · unfold partCs iv at hu
    simp only [List.mem_cons, List.not_mem_nil, or_false] at hu
    rcases hu with rfl | rfl | rfl | rfl | rfl <;> rfl
  · intro v' w' h2 h3 _
    refine h v' w' ?_ (Below.grown (Below.refl _ _) h3 hB (fun k hk => (hown.lt k hk).1)) h3
    unfold PartsR
    rw [flatP_app, List.length_append]; exact h2
end Go.Proofs.YtmnhafncdblklaaDoor.Relax
