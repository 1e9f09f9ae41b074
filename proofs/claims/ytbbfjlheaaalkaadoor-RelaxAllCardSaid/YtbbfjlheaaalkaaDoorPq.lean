/- Lists made of any numbers, as the law RelaxAll makes them: they are taken. No condition. -/
import Derived.Test.YtbbfjlheaaalkaaDoorPj
namespace Go.Proofs.YtbbfjlheaaalkaaDoor.Relax
open Go.Proofs.YtbbfjlheaaalkaaDoor.Enc

/-- The line that a number makes. -/
def numL (n : Int) : PL := ⟨1 + n % 48, n / 48 % 12, n / 576 % 12, n / 6912 % 12, 0, 0, []⟩
def rawL (L : Nat) (n : Int) : PL :=
  if goesB (numL n) then ⟨1 + n % 48, 0, 0, 0, 0, n / 48 % L, []⟩
  else if 1 + n % 48 = 42 then ⟨1 + n % 48, n / 48 % 12, 0, 0, 0, 0, [n / 576 % L, 0]⟩
  else if mayP (codeOf (numL n)) then numL n else ⟨44, 0, 0, 0, 0, 0, []⟩
def labL (i : Nat) : PL := ⟨0, 0, 0, 0, 0, i, []⟩
/-- What is made of the first numbers. -/
def midL (L : Nat) (ns : List Int) : Nat → List PL
  | 0 => []
  | k + 1 => (midL L ns k ++ [rawL L (ns.getD k 0)]) ++ (if k < L then [labL k] else [])
def endL (l : List PL) (n : Nat) : Nat → List PL
  | 0 => l
  | j + 1 => endL l n j ++ [labL (n + j)]
/-- A line of such a list. -/
structure OkL (L : Nat) (x : PL) : Prop where
  op : 0 ≤ x.op ∧ x.op ≤ 48
  may : mayL x = true
  goes : goesB x = true → ∃ k : Nat, k < L ∧ x.label = k
  list : ∀ q ∈ x.list, ∃ k : Nat, k < L ∧ q = k
  short : x.list.length ≤ 2
theorem mod_nat {n : Int} {L : Nat} (hL : 0 < L) : ∃ k : Nat, k < L ∧ n % (L : Int) = k := by
  have h1 := Int.emod_nonneg n (show (L : Int) ≠ 0 by omega)
  have h2 := Int.emod_lt_of_pos n (show (0 : Int) < L by omega)
  exact ⟨(n % L).toNat, by omega, by omega⟩
theorem lab_ok (L k : Nat) (hk : k ≤ 100000) : OkL L (labL k) := by
  refine ⟨⟨Int.le_refl _, by show (0 : Int) ≤ 48; decide⟩, ?_, fun h => ?_, fun q hq => absurd hq List.not_mem_nil, by show 0 ≤ 2; decide⟩
  · unfold mayL labL labelB; simp; omega
  · simp [labL, goesB, isBr, branchOp] at h
theorem raw_ok (L : Nat) (n : Int) (hL : 0 < L) (h50 : L ≤ 50) : OkL L (rawL L n) ∧ (rawL L n).op ≠ 0 := by
  have r0 : 0 ≤ n % 48 ∧ n % 48 < 48 := ⟨Int.emod_nonneg _ (by decide), Int.emod_lt_of_pos _ (by decide)⟩
  have r1 : 0 ≤ n / 48 % 12 ∧ n / 48 % 12 < 12 := ⟨Int.emod_nonneg _ (by decide), Int.emod_lt_of_pos _ (by decide)⟩
  obtain ⟨k1, hk1, e1⟩ := mod_nat (n := n / 48) hL
  obtain ⟨k2, hk2, e2⟩ := mod_nat (n := n / 576) hL
  unfold rawL
  split
  · rename_i hg
    have hg' := hg
    unfold goesB isBr branchOp numL at hg'
    simp only [Bool.or_eq_true, decide_eq_true_eq, beq_iff_eq] at hg'
    refine ⟨⟨by simp only; omega, ?_, fun _ => ⟨k1, hk1, e1⟩, fun q hq => absurd hq List.not_mem_nil, by simp⟩, by simp only; omega⟩
    have hgo : goesB ⟨1 + n % 48, 0, 0, 0, 0, n / 48 % L, []⟩ = true := by
      unfold goesB isBr branchOp
      simp only [Bool.or_eq_true, decide_eq_true_eq, beq_iff_eq]
      exact hg'
    unfold mayL
    rw [if_neg (by simp only; omega), if_pos hgo]
    have hl : labelB (n / 48 % L) = true := by unfold labelB; rw [e1]; simp; omega
    have hm : mayP { codeOf ⟨1 + n % 48, 0, 0, 0, 0, n / 48 % L, []⟩ with imm := 0 } = true := by
      unfold mayP codeOf reg zero near wide trapN
      simp only
      (repeat' split) <;> simp_all <;> omega
    rw [hm, hl]; rfl
  · rename_i hg
    split
    · rename_i h42
      refine ⟨⟨by simp only; omega, ?_, fun h => ?_, fun q hq => ?_, by simp⟩, by simp only; omega⟩
      · unfold mayL
        have hgo : ¬ goesB ⟨1 + n % 48, n / 48 % 12, 0, 0, 0, 0, [n / 576 % L, 0]⟩ = true := fun h => hg h
        rw [if_neg (by simp only; omega), if_neg hgo, if_pos (by simpa using h42)]
        have hl : labelB (n / 576 % L) = true := by unfold labelB; rw [e2]; simp; omega
        have hm : mayP (codeOf ⟨1 + n % 48, n / 48 % 12, 0, 0, 0, 0, [n / 576 % L, 0]⟩) = true := by
          unfold mayP codeOf reg zero
          simp only
          rw [h42]
          simp; omega
        have h0 : labelB 0 = true := by decide
        simp only [List.all_cons, hl, h0, List.all_nil, hm, Bool.and_self, Bool.true_and, List.length_cons, List.length_nil]
        simp
      · exact absurd h hg
      · simp only [List.mem_cons, List.not_mem_nil, or_false] at hq
        rcases hq with rfl | rfl
        · exact ⟨k2, hk2, e2⟩
        · exact ⟨0, hL, rfl⟩
    · rename_i h42
      split
      · rename_i hm
        refine ⟨⟨by unfold numL; simp only; omega, ?_, fun h => absurd h hg, fun q hq => absurd hq List.not_mem_nil, by unfold numL; simp⟩, by unfold numL; simp only; omega⟩
        unfold mayL
        rw [if_neg (by unfold numL; simp only; omega), if_neg hg, if_neg (by unfold numL; simpa using h42), hm]
        split <;> rfl
      · exact ⟨⟨by decide, by decide, fun h => absurd h (by decide), fun q hq => absurd hq List.not_mem_nil, by decide⟩, by decide⟩
/-- The labels that stand in a list. -/
def labsOf (l : List PL) : List Int := (l.filter fun x => x.op == 0).map (·.label)
theorem labs_append (a b : List PL) : labsOf (a ++ b) = labsOf a ++ labsOf b := by unfold labsOf; rw [List.filter_append, List.map_append]
def natsL (n : Nat) : List Int := (List.range n).map fun (k : Nat) => (k : Int)
theorem nats_succ (n : Nat) : natsL (n + 1) = natsL n ++ [(n : Int)] := by unfold natsL; rw [List.range_succ, List.map_append]; rfl
theorem labs_mid (L : Nat) (ns : List Int) (hL : 0 < L) (h50 : L ≤ 50) : ∀ k, labsOf (midL L ns k) = natsL (min k L)
  | 0 => by simp [midL, labsOf, natsL]
  | k + 1 => by
    unfold midL
    rw [labs_append, labs_append, labs_mid L ns hL h50 k]
    have h1 : labsOf [rawL L (ns.getD k 0)] = [] := by
      have := (raw_ok L (ns.getD k 0) hL h50).2
      unfold labsOf
      rw [List.filter_cons_of_neg (by simpa using this)]; rfl
    rw [h1, List.append_nil]
    by_cases h : k < L
    · rw [if_pos h, show min (k + 1) L = min k L + 1 by omega, nats_succ, show min k L = k by omega]; rfl
    · rw [if_neg h, show min (k + 1) L = min k L by omega]; simp [labsOf]
theorem labs_end (l : List PL) (n : Nat) (h : labsOf l = natsL n) : ∀ j, labsOf (endL l n j) = natsL (n + j)
  | 0 => h
  | j + 1 => by
    unfold endL
    rw [labs_append, labs_end l n h j, show n + (j + 1) = (n + j) + 1 by omega, nats_succ]; rfl
theorem ok_mid (L : Nat) (ns : List Int) (hL : 0 < L) (h50 : L ≤ 50) : ∀ k, ∀ x ∈ midL L ns k, OkL L x
  | 0, x, hx => absurd hx List.not_mem_nil
  | k + 1, x, hx => by
    unfold midL at hx
    rcases List.mem_append.1 hx with hx | hx
    · rcases List.mem_append.1 hx with hx | hx
      · exact ok_mid L ns hL h50 k x hx
      · rw [List.mem_singleton.1 hx]; exact (raw_ok L _ hL h50).1
    · by_cases h : k < L
      · rw [if_pos h] at hx
        rw [List.mem_singleton.1 hx]; exact lab_ok L k (by omega)
      · rw [if_neg h] at hx; exact absurd hx List.not_mem_nil
theorem ok_end (L : Nat) (l : List PL) (n : Nat) (h : ∀ x ∈ l, OkL L x) : ∀ j, n + j ≤ 100000 → ∀ x ∈ endL l n j, OkL L x
  | 0, _, x, hx => h x hx
  | j + 1, hj, x, hx => by
    unfold endL at hx
    rcases List.mem_append.1 hx with hx | hx
    · exact ok_end L l n h j (by omega) x hx
    · rw [List.mem_singleton.1 hx]; exact lab_ok L _ (by omega)
theorem len_mid (L : Nat) (ns : List Int) : ∀ k, (midL L ns k).length = k + min k L
  | 0 => by simp [midL]
  | k + 1 => by
    unfold midL
    rw [List.length_append, List.length_append, len_mid L ns k]
    by_cases h : k < L
    · rw [if_pos h]; simp; omega
    · rw [if_neg h]; simp; omega
theorem len_end (l : List PL) (n : Nat) : ∀ j, (endL l n j).length = l.length + j
  | 0 => rfl
  | j + 1 => by unfold endL; rw [List.length_append, len_end l n j]; simp; omega
/-- The whole list. -/
def allL (L : Nat) (ns : List Int) : List PL := endL (midL L ns (min ns.length 2000)) ns.length (L - ns.length)
theorem labs_all (L : Nat) (ns : List Int) (hL : 0 < L) (h50 : L ≤ 50) : labsOf (allL L ns) = natsL L := by
  unfold allL
  rcases Nat.lt_or_ge ns.length L with h | h
  · rw [labs_end _ _ (by rw [labs_mid L ns hL h50]; congr 1; omega), show ns.length + (L - ns.length) = L by omega]
  · rw [show L - ns.length = 0 by omega]
    show labsOf (midL L ns (min ns.length 2000)) = _
    rw [labs_mid L ns hL h50, show min (min ns.length 2000) L = L by omega]
theorem ok_all (L : Nat) (ns : List Int) (hL : 0 < L) (h50 : L ≤ 50) : ∀ x ∈ allL L ns, OkL L x := by
  unfold allL
  rcases Nat.lt_or_ge ns.length L with h | h
  · exact ok_end L _ _ (ok_mid L ns hL h50 _) _ (by omega)
  · rw [show L - ns.length = 0 by omega]
    exact ok_mid L ns hL h50 _
theorem len_all (L : Nat) (ns : List Int) (h50 : L ≤ 50) : (allL L ns).length = min ns.length 2000 + L := by
  unfold allL
  rw [len_end, len_mid]
  omega
theorem lineAt_get {l : List PL} {i : Nat} (hi : i < l.length) : l[i]? = some (lineAt l i) := by
  unfold lineAt
  rw [List.getD_eq_getElem?_getD, List.getElem?_eq_getElem hi]; rfl
theorem lineAt_mem {l : List PL} {i : Nat} (hi : i < l.length) : lineAt l i ∈ l := List.mem_of_getElem? (lineAt_get hi)
/-- A list of such lines, each label of which stands once, is taken. -/
theorem taken_all {L : Nat} {l : List PL} (hl : l.length ≤ 60000) (hok : ∀ x ∈ l, OkL L x) (hlab : labsOf l = natsL L) : Taken l := by
  have hst : ∀ k : Nat, k < L → (standsAt l (k : Int) l.length).isSome = true := fun k hk => by
    cases hs : standsAt l (k : Int) l.length with
    | some t => rfl
    | none =>
      exfalso
      have h1 := stands_no hs
      have h2 : (k : Int) ∈ labsOf l := by rw [hlab]; exact List.mem_map.2 ⟨k, List.mem_range.2 hk, rfl⟩
      obtain ⟨x, hx, e⟩ := List.mem_map.1 h2
      obtain ⟨hx1, hx2⟩ := List.mem_filter.1 hx
      obtain ⟨i, hi, e2⟩ := List.mem_iff_getElem.1 hx1
      have h3 := lineAt_get hi
      rw [List.getElem?_eq_getElem hi] at h3
      injection h3 with h3
      exact h1 i hi ⟨by rw [← h3, e2]; simpa using hx2, by rw [← h3, e2]; exact e⟩
  have hnd : (labsOf l).Nodup := by
    rw [hlab]
    exact List.nodup_range.map (f := fun (k : Nat) => (k : Int)) (fun a b h e => h (by have e2 : (a : Int) = b := e; omega))
  refine ⟨hl, fun i hi => ?_, fun i hi => ?_⟩
  · have ho := hok _ (lineAt_mem hi)
    unfold lineErr
    rw [if_neg (by have := ho.op; omega), ho.may, if_pos rfl]
    by_cases h0 : (lineAt l i).op = 0
    · rw [if_neg]
      rintro ⟨_, h2⟩
      have h3 : standsAt l (lineAt l i).label i = none := stands_none fun k hk h4 => by
        have e1 : l = l.take i ++ (lineAt l i :: l.drop (i + 1)) := by
          obtain ⟨h5, h6⟩ := List.getElem?_eq_some_iff.1 (lineAt_get hi)
          rw [← h6, ← List.drop_eq_getElem_cons h5, List.take_append_drop]
        rw [e1, labs_append] at hnd
        have h7 : labsOf (lineAt l i :: l.drop (i + 1)) = (lineAt l i).label :: labsOf (l.drop (i + 1)) := by
          unfold labsOf
          rw [List.filter_cons_of_pos (by simpa using h0)]; rfl
        rw [h7] at hnd
        have h8 : (lineAt l i).label ∈ labsOf (l.take i) := by
          rw [← h4.2]
          refine List.mem_map.2 ⟨lineAt l k, List.mem_filter.2 ⟨?_, by simpa using h4.1⟩, rfl⟩
          refine List.mem_of_getElem? (i := k) ?_
          rw [List.getElem?_take, if_pos hk]
          exact lineAt_get (by omega)
        exact (List.nodup_append.1 hnd).2.2 _ h8 _ List.mem_cons_self rfl
      rw [h3] at h2; cases h2
    · rw [if_neg (fun h => h0 h.1)]
  · have ho := hok _ (lineAt_mem hi)
    unfold labErr standsB
    rw [if_neg]
    intro h
    rw [Bool.or_eq_true] at h
    rcases h with h | h
    · rw [Bool.and_eq_true] at h
      obtain ⟨k, hk, e⟩ := ho.goes h.1
      have h2 := h.2
      rw [e, hst k hk] at h2; cases h2
    · rw [List.any_eq_true] at h
      obtain ⟨q, hq, h2⟩ := h
      obtain ⟨k, hk, e⟩ := ho.list q hq
      rw [e, hst k hk] at h2; cases h2
theorem size_le4 {x : PL} (h : x.list.length ≤ 2) (b : Bool) : sizeP x b ≤ 4 := by unfold sizeP; (repeat' split) <;> omega
theorem size_ge1 {x : PL} (h : x.op ≠ 0) (b : Bool) : 1 ≤ sizeP x b := by unfold sizeP; rw [if_neg h]; (repeat' split) <;> omega
theorem place_le4 {L : Nat} {l : List PL} (hok : ∀ x ∈ l, OkL L x) (g : List Bool) : ∀ k, k ≤ l.length → placeP l g k ≤ 4 * k
  | 0, _ => Nat.le_refl _
  | k + 1, hk => by
    have h1 := place_le4 hok g k (by omega)
    have h2 := size_le4 (hok _ (lineAt_mem (show k < l.length by omega))).short (longAt g k)
    show placeP l g k + _ ≤ _
    omega
theorem place_ge {l : List PL} (g : List Bool) : ∀ k, k ≤ l.length → k ≤ placeP l g k + (labsOf (l.take k)).length
  | 0, _ => Nat.zero_le _
  | k + 1, hk => by
    have h1 := place_ge (l := l) g k (by omega)
    show k + 1 ≤ placeP l g k + sizeP (lineAt l k) (longAt g k) + _
    have e : l.take (k + 1) = l.take k ++ [lineAt l k] := by rw [List.take_add_one, lineAt_get (by omega)]; rfl
    rw [e, labs_append, List.length_append]
    by_cases h0 : (lineAt l k).op = 0
    · have : labsOf [lineAt l k] = [(lineAt l k).label] := by unfold labsOf; rw [List.filter_cons_of_pos (by simpa using h0)]; rfl
      rw [this, List.length_singleton]; omega
    · have := size_ge1 h0 (longAt g k)
      omega
theorem all_asm (L : Nat) (ns : List Int) (hL : 0 < L) (h50 : L ≤ 50) :
    ∃ a, asmP (allL L ns) = (a, 0, 0) ∧ a.places.length = (allL L ns).length ∧ min ns.length 2000 ≤ a.words.length := by
  have hok := ok_all L ns hL h50
  have hlen := len_all L ns h50
  have ht := taken_all (by rw [hlen]; omega) hok (labs_all L ns hL h50)
  have h4 := place_le4 hok (longP (allL L ns)).1 _ (Nat.le_refl _)
  have hge := place_ge (l := allL L ns) (longP (allL L ns)).1 _ (Nat.le_refl _)
  rw [List.take_length, labs_all L ns hL h50] at hge
  have hn : (natsL L).length = L := by unfold natsL; simp
  refine ⟨_, asm_taken ht (by omega), by simp, ?_⟩
  simp only [List.length_map]
  rw [words_len]
  omega
end Go.Proofs.YtbbfjlheaaalkaaDoor.Relax
