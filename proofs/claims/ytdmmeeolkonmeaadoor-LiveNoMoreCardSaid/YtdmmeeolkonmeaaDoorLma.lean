/- The law's own functions: has, first; what an instruction uses, calls too. No condition but sizes. -/
import Derived.Test.YtdmmeeolkonmeaaDoorLvb
import Derived.Test.YtdmmeeolkonmeaaDoorYu
namespace Go.Proofs.YtdmmeeolkonmeaaDoor.Live
open Go.RowKit Go.Proofs.YtdmmeeolkonmeaaDoor.Graph

theorem run_append_nil0 {P : Program} (w : World) (t e ty : TypeId) (size : Nat) (hu : P.underlying t = some (.slice e)) (hs : (P.info? e).map (·.size) = some size) (c : Nat) (p : Option Addr) :
    (Builtin.append_ #[t, t] ty #[.slice none 0 0, .slice p 0 c]).run P w = .ok (.slice none 0 0) w := by
  cases hq : P.info? e with
  | none => simp [hq] at hs
  | some i =>
    have hl : ∀ (x : Addr), (loadCells x 0).run P w = .ok #[] w := fun x => by simpa using run_loadCells_list (P := P) w x [] (by simp)
    cases p <;> simp [Builtin.append_, run_underlying hu, Builtin.lenOf, Builtin.firstCells, sizeOf, typeInfo, hq, hl]
theorem wpList_append_nil0 {P : Program} {w : World} {ops : Array Oper} {rest : List Oper} {o : Oper} {a : Act} {Q : Exit → Act → World → Prop} (hgd : o.guard = none) (d s : Operand) (t : TypeId)
    (ho : o.op = .call { callee := .builtin .append, args := #[d, s], argTypes := #[t, t] }) (e : TypeId) (size : Nat) (hu : P.underlying t = some (.slice e)) (hs : (P.info? e).map (·.size) = some size)
    (c : Nat) (p : Option Addr) (hd : a.eval d = .slice none 0 0) (hx : a.eval s = .slice p 0 c)
    (h : wpList P ops Q rest (a.put o.dst (.slice none 0 0)) w) : wpList P ops Q (o :: rest) a w := by
  refine wpList_plain hgd fun K hK => ?_
  have hrun := run_append_nil0 (P := P) w t e o.type size hu hs c p
  unfold Oper.wp
  simp [execOp, ho, resolve, invoke, builtin, hd, hx, hrun, Result.andThen]
  exact hK _ _ h
/-- The cell of a list. -/
theorem ints_cell {w : World} {v : Value} {l : List Int} (h : IntsR w v l) {k : Nat} {x : Int} (hk : l[k]? = some x) : ∃ g o c, v = .slice (some ⟨g, o, none⟩) l.length c ∧ w.cell? ⟨g, o + k, none⟩ = some (.int .i64 x) ∧ g < w.heap.size ∧ l.length ≤ c ∧ c ≤ 9223372036854775807 := by
  have hlt := (List.getElem?_eq_some_iff.1 hk).1
  obtain ⟨g, o, c, hv, hcap, hgl, hP⟩ := SlR.form2 h (by omega)
  have := hP k hlt x hk
  rw [Nat.mul_one] at this
  exact ⟨g, o, c, hv, this, hgl, hcap.1, by have := hcap.2; omega⟩
set_option maxHeartbeats 4000000 in
set_option maxRecDepth 100000 in
theorem inList_any (l : List Int) (v : Value) (t : Int) (w : World) (h : IntsR w v l) :
    Calls Tryd.prog 17 #[v, .int .i64 t] w fun e w' => e = .returned (.bool (decide (t ∈ l))) ∧ w' = w := by
  obtain ⟨p, c, rfl⟩ := h.form
  have HL := Lib.hid h
  obtain ⟨n, hn⟩ : ∃ n, n = l.length := ⟨_, rfl⟩
  have HN := Lib.hid hn
  rw [← hn]
  clear h hn
  go_enter Tryd.func17, Tryd.ntmps17
  go_wp2
  go_loopw [5] (fun i wr => ∃ k : Nat, k ≤ n ∧ i = .int .i64 k ∧ wr = w ∧ Hid (∀ j x, j < k → l[j]? = some x → x ≠ t)) (fun i _ => n - (intOf i).toNat)
  case atStart => exact ⟨0, Nat.zero_le _, rfl, rfl, Lib.hid (fun j x hj => absurd hj (Nat.not_lt_zero _))⟩
  case round =>
    obtain ⟨k, hk, rfl, rfl, HA⟩ := hrel
    by_cases hkn : k < n
    · obtain ⟨x, hx⟩ : ∃ x, l[k]? = some x := ⟨_, List.getElem?_eq_getElem (by have := HN.out; omega)⟩
      obtain ⟨g, o, c', hv, hc, hg, hc1, hc2⟩ := ints_cell HL.out hx
      rw [← HN.out] at hv hc1
      injection hv with e1 _ e3
      subst e1 e3
      have ki : (k : Int) < n := by omega
      have k0 : (0 : Int) ≤ k := by omega
      have k2 : (n : Int) ≤ c := by omega
      have k3 : (c : Int) ≤ 9223372036854775807 := by omega
      have HX := Lib.hid hx
      clear hx hc1 hc2
      by_cases hxt : x = t
      · have hd : Hid (decide (t ∈ l) = true) := Lib.hid (decide_eq_true (by rw [← hxt]; exact List.mem_of_getElem? HX.out))
        have he : (x == t) = true := by simpa using hxt
        clear hxt
        go_wp2
        go_ret
        exact ⟨by rw [hd.out]; rfl, rfl⟩
      · have he : (x == t) = false := by simpa using hxt
        have HXT := Lib.hid hxt
        clear hxt
        go_wp2
        exact ⟨⟨k + 1, by omega, by go_num, (by first | trivial | rfl), Lib.hid (fun j y hj hy => by
          by_cases e : j = k
          · subst e
            rw [HX.out] at hy
            injection hy with hy
            rw [← hy]; exact HXT.out
          · exact HA.out j y (by omega) hy)⟩, by simp [intOf]; omega⟩
    · have hkn2 : k = n := by omega
      have hki : ¬ ((k : Int) < n) := by omega
      have hd : Hid (decide (t ∈ l) = false) := Lib.hid (decide_eq_false (fun hm => by
        obtain ⟨j, hj, e⟩ := List.mem_iff_getElem.1 hm
        exact HA.out j t (by have := HN.out; omega) (by rw [List.getElem?_eq_getElem hj, e]) rfl))
      go_wp2
      go_ret
      exact ⟨by rw [hd.out]; rfl, rfl⟩
set_option maxHeartbeats 4000000 in
set_option maxRecDepth 100000 in
theorem uses_call (x : PIns) (va vr : Value) (w : World) (h : InsL w va vr x) (h8 : kindI x.op = 8) (hb : x.args.length * 8 ≤ 140737488355328) :
    Calls Tryd.prog 37 #[insV x va vr] w (RetI x.args w) := by
  have HA := Lib.hid h.args
  obtain ⟨ap, ac, rfl⟩ := h.args.form
  obtain ⟨rp, rc, rfl⟩ := h.arrs.form
  have HK : Hid (∀ w, Calls Tryd.prog 62 #[.int .i64 x.op] w fun e w' => e = .returned (.int .i64 8) ∧ w' = w) := Lib.hid (fun w => by have := kind_any x.op w; rwa [h8] at this)
  unfold insV
  rcases Nat.eq_zero_or_pos x.args.length with h0 | h0
  · have HE : Hid (∀ w' : World, IntsR w' (.slice none 0 0) x.args) := Lib.hid (fun w' => .inl ⟨h0, _, _, rfl⟩)
    rw [h0]
    clear h h8 hb h0
    go_enter Tryd.func37, Tryd.ntmps37
    go_wp2_with (first
      | (go_at_call 62; refine (HK.out _).mono ?_; rintro e w2 ⟨rfl, h2⟩; subst h2)
      | (at_builtin
         refine wpList_append_nil0 (by rfl) _ _ 22 (by rfl) 3 1 Tryd.underlying22 (by kernel_rfl) ac ap (by rfl) (by rfl) ?_))
    go_ret
    exact ⟨_, _, _, rfl, HE.out _, below_alloc w _⟩
  · obtain ⟨g, o, c', hv, hcap, hgl, _⟩ := SlR.form2 HA.out h0
    injection hv with hv _ hce
    subst hv hce
    have HNW : Hid (∀ w2, Below w.heap.size w w2 → ∀ j u, (x.args.map iv)[j]? = some u → w2.cell? ((⟨g, o, none⟩ : Addr).add j) = some u) := Lib.hid (fun w2 h2 => news_many HA.out h2)
    obtain ⟨i0, hi, hz0, hz1, hz2⟩ := info_parts info_int
    have HI := Lib.hid hi
    obtain ⟨n, hn⟩ : ∃ n, n = x.args.length := ⟨_, rfl⟩
    have HN := Lib.hid hn
    rw [← hn] at hb h0 ⊢
    clear h h8 hi hn hcap hgl
    go_enter Tryd.func37, Tryd.ntmps37
    go_wp2_with (first
      | (go_at_call 62; refine (HK.out _).mono ?_; rintro e w2 ⟨rfl, h2⟩; subst h2)
      | (at_builtin
         go_loud (refine wpList_append_lies _ (by rfl) _ _ 22 (by rfl) w.heap.size 3 i0 _ 1 8 Tryd.underlying22 HI.out hz0 hz1 hz2 rfl (by omega) _ 0 _ (by rfl) (World.ownsRow_nil _ _ _ _) ⟨g, o, none⟩ n ac (x.args.map iv) (by rfl) (by rw [List.length_map, HN.out, Nat.mul_one]) (HNW.out _ (below_alloc w _)) mem_iv h0 (by unfold maxLen; omega) (by omega) (by simp) _ rfl ?_)
         intro g5 c5 w5 h5 h6 h7 h8
         have H5 := Lib.hid h5
         have H6 : Hid (Below w.heap.size w w5) := Lib.hid (Below.grown (below_alloc w _) h6 (by simp) (fun q hq => by cases hq))
         clear h5 h6 h7 h8))
    go_ret
    have hnn := HN.out
    subst hnn
    have h5 := H5.out
    rw [Nat.zero_add, List.nil_append] at h5
    exact ⟨_, _, _, rfl, ints_of_own h5, H6.out⟩
/-- What may be of an instruction, here: its number. -/
theorem uses_same {x : PIns} (h : 1 ≤ x.op ∧ x.op ≤ 32) (h8 : kindI x.op ≠ 8) : usesL x = usesI x := by
  unfold usesL usesI kindI at *
  (repeat' split at h8) <;> (repeat' split) <;> first | rfl | omega
theorem uses_same8 {x : PIns} (_h : 1 ≤ x.op ∧ x.op ≤ 32) (h8 : kindI x.op = 8) : x.args = usesI x := by
  have : x.op = 29 := by unfold kindI at h8; (repeat' split at h8) <;> omega
  unfold usesI; rw [if_pos this]
theorem sets_same {x : PIns} (h : 1 ≤ x.op ∧ x.op ≤ 32) {t : Int} (ht : 0 ≤ t) : (setsI x = t) ↔ (setsT x = true ∧ x.d = t) := by
  unfold setsI setsT kindI
  (repeat' split) <;> simp <;> omega
theorem endUses_same {e : PEnd} (h : 1 ≤ e.kind ∧ e.kind ≤ 5) : endUsesL e = usesE e := by
  unfold endUsesL usesE
  (repeat' split) <;> first | rfl | omega | simp_all
theorem usesI_any (x : PIns) (va vr : Value) (w : World) (h : InsL w va vr x) (ho : 1 ≤ x.op ∧ x.op ≤ 32) (hb : x.args.length * 8 ≤ 140737488355328) :
    Calls Tryd.prog 37 #[insV x va vr] w (RetI (usesI x) w) := by
  by_cases h8 : kindI x.op = 8
  · rw [← uses_same8 ho h8]; exact uses_call x va vr w h h8 hb
  · rw [← uses_same ho h8]; exact uses_any x va vr w h h8
end Go.Proofs.YtdmmeeolkonmeaaDoor.Live
