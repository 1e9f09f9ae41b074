/- The law's own functions: has, first; what an instruction uses, calls too. No condition but sizes. -/
import Derived.Test.YtcijaaiopfbffaaDoorLvb
import Derived.Test.YtcijaaiopfbffaaDoorYu
namespace Go.Proofs.YtcijaaiopfbffaaDoor.Live
open Go.RowKit Go.Proofs.YtcijaaiopfbffaaDoor.Graph

theorem run_append_nil0 {P : Program} (w : World) (t e ty : TypeId) (size : Nat) (hu : P.underlying t = some (.slice e)) (hs : (P.info? e).map (·.size) = some size) (c : Nat) (p : Option Addr) :
    (Builtin.append_ #[t, t] ty #[.slice none 0 0, .slice p 0 c]).run P w = .ok (.slice none 0 0) w := by
  cases hq : P.info? e with
  | none => simp [hq] at hs
  | some i =>
    have hl : ∀ (x : Addr), (loadCells x 0).run P w = .ok #[] w := fun x => by simpa using run_loadCells_list (P := P) w x [] (by simp)
    cases p <;> simp [Builtin.append_, run_underlying hu, Builtin.lenOf, Builtin.firstCells, sizeOf, typeInfo, hq, hl]
theorem wpList_append_nil0 {P : Program} {w : World} {ops : Array Oper} {rest : List Oper} {o : Oper} {a : Act} {Q : Exit → Act → World → Prop} (hgd : o.guard = none) (d s : Operand) (t : TypeId)
    (ho : o.op = .call { callee := .builtin .append, args := #[d, s], argTypes := #[t, t] }) (e : TypeId) (size : Nat) (hu : P.underlying t = some (.slice e)) (hs : (P.info? e).map (·.size) = some size)
    (c : Nat) (p : Option Addr) (hd : a.eval d = .slice none 0 0) (hx : a.eval s = .slice p 0 c)
    (h : wpList P ops Q rest (a.put o.dst (.slice none 0 0)) w) : wpList P ops Q (o :: rest) a w := by
  refine wpList_plain hgd fun K hK => ?_
  have hrun := run_append_nil0 (P := P) w t e o.type size hu hs c p
  unfold Oper.wp
  simp [execOp, ho, resolve, invoke, builtin, hd, hx, hrun, Result.andThen]
  exact hK _ _ h
/-- The cell of a list. -/
theorem ints_cell {w : World} {v : Value} {l : List Int} (h : IntsR w v l) {k : Nat} {x : Int} (hk : l[k]? = some x) : ∃ g o c, v = .slice (some ⟨g, o, none⟩) l.length c ∧ w.cell? ⟨g, o + k, none⟩ = some (.int .i64 x) ∧ g < w.heap.size ∧ l.length ≤ c ∧ c ≤ 9223372036854775807 := by
  have hlt := (List.getElem?_eq_some_iff.1 hk).1
  obtain ⟨g, o, c, hv, hcap, hgl, hP⟩ := SlR.form2 h (by omega)
  have := hP k hlt x hk
  rw [Nat.mul_one] at this
  exact ⟨g, o, c, hv, this, hgl, hcap.1, by have := hcap.2; omega⟩
set_option maxHeartbeats 4000000 in
set_option maxRecDepth 100000 in
theorem inList_any (l : List Int) (v : Value) (t : Int) (w : World) (h : IntsR w v l) :
    Calls Tryd.prog 16 #[v, .int .i64 t] w fun e w' => e = .returned (.bool (decide (t ∈ l))) ∧ w' = w := by
  obtain ⟨p, c, rfl⟩ := h.form
  have HL := Lib.hid h
  obtain ⟨n, hn⟩ : ∃ n, n = l.length := ⟨_, rfl⟩
  have HN := Lib.hid hn
  rw [← hn]
  clear h hn
  go_enter Tryd.func16, Tryd.ntmps16
  go_wp2
  go_loopw [5] (fun i wr => ∃ k : Nat, k ≤ n ∧ i = .int .i64 k ∧ wr = w ∧ Hid (∀ j x, j < k → l[j]? = some x → x ≠ t)) (fun i _ => n - (intOf i).toNat)
  case atStart => exact ⟨0, Nat.zero_le _, rfl, rfl, Lib.hid (fun j x hj => absurd hj (Nat.not_lt_zero _))⟩
  case round =>
    obtain ⟨k, hk, rfl, rfl, HA⟩ := hrel
    by_cases hkn : k < n
    · obtain ⟨x, hx⟩ : ∃ x, l[k]? = some x := ⟨_, List.getElem?_eq_getElem (by have := HN.out; omega)⟩
      obtain ⟨g, o, c', hv, hc, hg, hc1, hc2⟩ := ints_cell HL.out hx
      rw [← HN.out] at hv hc1
      injection hv with e1 _ e3
      subst e1 e3
      have ki : (k : Int) < n := by omega
      have k0 : (0 : Int) ≤ k := by omega
      have k2 : (n : Int) ≤ c := by omega
      have k3 : (c : Int) ≤ 9223372036854775807 := by omega
      have HX := Lib.hid hx
      clear hx hc1 hc2
      by_cases hxt : x = t
      · have hd : Hid (decide (t ∈ l) = true) := Lib.hid (decide_eq_true (by rw [← hxt]; exact List.mem_of_getElem? HX.out))
        have he : (x == t) = true := by simpa using hxt
        clear hxt
        go_wp2
        go_ret
        exact ⟨by rw [hd.out]; rfl, rfl⟩
      · have he : (x == t) = false := by simpa using hxt
        have HXT := Lib.hid hxt
        clear hxt
        go_wp2
        exact ⟨⟨k + 1, by omega, by go_num, (by first | trivial | rfl), Lib.hid (fun j y hj hy => by
          by_cases e : j = k
          · subst e
            rw [HX.out] at hy
            injection hy with hy
            rw [← hy]; exact HXT.out
          · exact HA.out j y (by omega) hy)⟩, by simp [intOf]; omega⟩
    · have hkn2 : k = n := by omega
      have hki : ¬ ((k : Int) < n) := by omega
      have hd : Hid (decide (t ∈ l) = false) := Lib.hid (decide_eq_false (fun hm => by
        obtain ⟨j, hj, e⟩ := List.mem_iff_getElem.1 hm
        exact HA.out j t (by have := HN.out; omega) (by rw [List.getElem?_eq_getElem hj, e]) rfl))
      go_wp2
      go_ret
      exact ⟨by rw [hd.out]; rfl, rfl⟩
set_option maxHeartbeats 4000000 in
set_option maxRecDepth 100000 in
theorem uses_call (x : PIns) (va vr : Value) (w : World) (h : InsL w va vr x) (h8 : kindI x.op = 8) (hb : x.args.length * 8 ≤ 140737488355328) :
    Calls Tryd.prog 35 #[insV x va vr] w (RetI x.args w) := by
  have HA := Lib.hid h.args
  obtain ⟨ap, ac, rfl⟩ := h.args.form
  obtain ⟨rp, rc, rfl⟩ := h.arrs.form
  have HK : Hid (∀ w, Calls Tryd.prog 60 #[.int .i64 x.op] w fun e w' => e = .returned (.int .i64 8) ∧ w' = w) := Lib.hid (fun w => by have := kind_any x.op w; rwa [h8] at this)
  unfold insV
  rcases Nat.eq_zero_or_pos x.args.length with h0 | h0
  · have HE : Hid (∀ w' : World, IntsR w' (.slice none 0 0) x.args) := Lib.hid (fun w' => .inl ⟨h0, _, _, rfl⟩)
    rw [h0]
    clear h h8 hb h0
    go_enter Tryd.func35, Tryd.ntmps35
    go_wp2_with (first
      | (go_at_call 60; refine (HK.out _).mono ?_; rintro e w2 ⟨rfl, h2⟩; subst h2)
      | (at_builtin
         refine wpList_append_nil0 (by rfl) _ _ 22 (by rfl) 3 1 Tryd.underlying22 (by kernel_rfl) ac ap (by rfl) (by rfl) ?_))
    go_ret
    exact ⟨_, _, _, rfl, HE.out _, below_alloc w _⟩
  · obtain ⟨g, o, c', hv, hcap, hgl, _⟩ := SlR.form2 HA.out h0
    injection hv with hv _ hce
    subst hv hce
    have HNW : Hid (∀ w2, Below w.heap.size w w2 → ∀ j u, (x.args.map iv)[j]? = some u → w2.cell? ((⟨g, o, none⟩ : Addr).add j) = some u) := Lib.hid (fun w2 h2 => news_many HA.out h2)
    obtain ⟨i0, hi, hz0, hz1, hz2⟩ := info_parts info_int
    have HI := Lib.hid hi
    obtain ⟨n, hn⟩ : ∃ n, n = x.args.length := ⟨_, rfl⟩
    have HN := Lib.hid hn
    rw [← hn] at hb h0 ⊢
    clear h h8 hi hn hcap hgl
    go_enter Tryd.func35, Tryd.ntmps35
    go_wp2_with (first
      | (go_at_call 60; refine (HK.out _).mono ?_; rintro e w2 ⟨rfl, h2⟩; subst h2)
      | (at_builtin
         go_loud (refine wpList_append_lies _ (by rfl) _ _ 22 (by rfl) w.heap.size 3 i0 _ 1 8 Tryd.underlying22 HI.out hz0 hz1 hz2 rfl (by omega) _ 0 _ (by rfl) (World.ownsRow_nil _ _ _ _) ⟨g, o, none⟩ n ac (x.args.map iv) (by rfl) (by rw [List.length_map, HN.out, Nat.mul_one]) (HNW.out _ (below_alloc w _)) mem_iv h0 (by unfold maxLen; omega) (by omega) (by simp) _ rfl ?_)
         intro g5 c5 w5 h5 h6 h7 h8
         have H5 := Lib.hid h5
         have H6 : Hid (Below w.heap.size w w5) := Lib.hid (Below.grown (below_alloc w _) h6 (by simp) (fun q hq => by cases hq))
         clear h5 h6 h7 h8))
    go_ret
    have hnn := HN.out
    subst hnn
    have h5 := H5.out
    rw [Nat.zero_add, List.nil_append] at h5
    exact ⟨_, _, _, rfl, ints_of_own h5, H6.out⟩
/-- What may be of an instruction, here: its number. -/
theorem uses_same {x : PIns} (h : 1 ≤ x.op ∧ x.op ≤ 32) (h8 : kindI x.op ≠ 8) : usesL x = usesI x := by
  unfold usesL usesI kindI at *
  (repeat' split at h8) <;> (repeat' split) <;> first | rfl | omega
theorem uses_same8 {x : PIns} (_h : 1 ≤ x.op ∧ x.op ≤ 32) (h8 : kindI x.op = 8) : x.args = usesI x := by
  have : x.op = 29 := by unfold kindI at h8; (repeat' split at h8) <;> omega
  unfold usesI; rw [if_pos this]
theorem sets_same {x : PIns} (h : 1 ≤ x.op ∧ x.op ≤ 32) {t : Int} (ht : 0 ≤ t) : (setsI x = t) ↔ (setsT x = true ∧ x.d = t) := by
  unfold setsI setsT kindI
  (repeat' split) <;> simp <;> omega
theorem endUses_same {e : PEnd} (h : 1 ≤ e.kind ∧ e.kind ≤ 5) : endUsesL e = usesE e := by
  unfold endUsesL usesE
  (repeat' split) <;> first | rfl | omega | simp_all
theorem usesI_any (x : PIns) (va vr : Value) (w : World) (h : InsL w va vr x) (ho : 1 ≤ x.op ∧ x.op ≤ 32) (hb : x.args.length * 8 ≤ 140737488355328) :
    Calls Tryd.prog 35 #[insV x va vr] w (RetI (usesI x) w) := by
  by_cases h8 : kindI x.op = 8
  · rw [← uses_same8 ho h8]; exact uses_call x va vr w h h8 hb
  · rw [← uses_same ho h8]; exact uses_any x va vr w h h8
end Go.Proofs.YtcijaaiopfbffaaDoor.Live
namespace Go.Proofs.YtcijaaiopfbffaaDoor.Live
open Go.RowKit Go.Proofs.YtcijaaiopfbffaaDoor.Graph

def blkV (x : PBlk) (vk vc vt : Value) : Value := .agg #[vk, .int .i64 x.fin.kind, .int .i64 x.fin.op, .int .i64 x.fin.a, .int .i64 x.fin.b, .int .u32 x.fin.n, .int .i64 x.fin.to, .int .i64 x.fin.els, vc, vt]
theorem ins_op {m : Int} {x : PIns} (h : insFit m x = true) : 1 ≤ x.op ∧ x.op ≤ 32 := by
  unfold insFit at h
  simp only [Bool.and_eq_true, decide_eq_true_eq] at h
  exact ⟨h.1.1.1, h.1.1.2⟩
theorem end_kind {m : Int} {x : PBlk} (h : blkFit m x = true) : 1 ≤ x.fin.kind ∧ x.fin.kind ≤ 5 := by
  unfold blkFit endFit at h
  simp only [Bool.and_eq_true, decide_eq_true_eq] at h
  exact ⟨h.2.1.1, h.2.1.2⟩
theorem first_drop {e : PEnd} {t : Int} {l : List PIns} {k : Nat} {x : PIns} (hx : l[k]? = some x) : firstC e t (l.drop k) = if t ∈ usesI x then 1 else if setsT x = true ∧ x.d = t then 2 else firstC e t (l.drop (k + 1)) := by
  obtain ⟨hk, rfl⟩ := List.getElem?_eq_some_iff.1 hx
  rw [List.drop_eq_getElem_cons hk]; rfl
set_option maxHeartbeats 8000000 in
set_option maxRecDepth 100000 in
theorem first_any (x : PBlk) (m : Int) (vk vc vt : Value) (t : Int) (ht : 0 ≤ t) (w : World) (hf : blkFit m x = true) (hs : SmB x) (hc : CodeR w vk x.code) (he : EndL w vc vt x.fin) :
    Calls Tryd.prog 14 #[blkV x vk vc vt, .int .i64 t] w (Is (.int .i64 (firstB x t : Nat)) w) := by
  obtain ⟨kp, kc, rfl⟩ := hc.form
  obtain ⟨cp, cc, rfl⟩ := he.cases.form
  obtain ⟨tp, tc, rfl⟩ := he.targets.form
  have HC := Lib.hid hc
  have HF := Lib.hid hf
  have HS := Lib.hid hs
  have hKK := end_kind hf
  have HEU := Lib.hid (fun (w : World) => endUses_any x.fin cp tp x.fin.cases.length cc x.fin.targets.length tc w)
  rw [endUses_same hKK] at HEU
  have HT := Lib.hid ht
  obtain ⟨n, hn⟩ : ∃ n, n = x.code.length := ⟨_, rfl⟩
  have HN := Lib.hid hn
  unfold blkV
  rw [← hn]
  generalize x.fin.cases.length = cl at *
  generalize x.fin.targets.length = tl' at *
  clear hc he hf hs hn hKK ht
  go_enter Tryd.func14, Tryd.ntmps14
  go_wp2
  have HX1 : Hid ((w.alloc (.cells #[.slice kp n kc, .int .i64 x.fin.kind, .int .i64 x.fin.op, .int .i64 x.fin.a, .int .i64 x.fin.b, .int .u32 x.fin.n, .int .i64 x.fin.to, .int .i64 x.fin.els, .slice cp cl cc, .slice tp tl' tc] 42)).heap[w.heap.size]? = some (.cells #[.slice kp n kc, .int .i64 x.fin.kind, .int .i64 x.fin.op, .int .i64 x.fin.a, .int .i64 x.fin.b, .int .u32 x.fin.n, .int .i64 x.fin.to, .int .i64 x.fin.els, .slice cp cl cc, .slice tp tl' tc] 42 (0, 0))) := Lib.hid (heap_new w _)
  have HB1 := Lib.hid (Graph.below_alloc w (.cells #[.slice kp n kc, .int .i64 x.fin.kind, .int .i64 x.fin.op, .int .i64 x.fin.a, .int .i64 x.fin.b, .int .u32 x.fin.n, .int .i64 x.fin.to, .int .i64 x.fin.els, .slice cp cl cc, .slice tp tl' tc] 42))
  generalize w.alloc (.cells #[.slice kp n kc, .int .i64 x.fin.kind, .int .i64 x.fin.op, .int .i64 x.fin.a, .int .i64 x.fin.b, .int .u32 x.fin.n, .int .i64 x.fin.to, .int .i64 x.fin.els, .slice cp cl cc, .slice tp tl' tc] 42) = w1 at HX1 HB1 ⊢
  have HLT : Hid (w.heap.size < w1.heap.size) := Lib.hid (Array.getElem?_eq_some_iff.1 HX1.out).1
  have HCE : Hid (∀ W : World, Below w1.heap.size w1 W → W.cell? ⟨w.heap.size, 0, none⟩ = some (.slice kp n kc) ∧ W.cell? ⟨w.heap.size, 1, none⟩ = some (.int .i64 x.fin.kind) ∧ W.cell? ⟨w.heap.size, 2, none⟩ = some (.int .i64 x.fin.op) ∧ W.cell? ⟨w.heap.size, 3, none⟩ = some (.int .i64 x.fin.a) ∧ W.cell? ⟨w.heap.size, 4, none⟩ = some (.int .i64 x.fin.b) ∧ W.cell? ⟨w.heap.size, 5, none⟩ = some (.int .u32 x.fin.n) ∧ W.cell? ⟨w.heap.size, 6, none⟩ = some (.int .i64 x.fin.to) ∧ W.cell? ⟨w.heap.size, 7, none⟩ = some (.int .i64 x.fin.els) ∧ W.cell? ⟨w.heap.size, 8, none⟩ = some (.slice cp cl cc) ∧ W.cell? ⟨w.heap.size, 9, none⟩ = some (.slice tp tl' tc)) := Lib.hid (fun W hW => by
    have hb := (hW.block _ HLT.out).trans HX1.out
    exact ⟨(cell_of_block hb (k := 0) rfl).1, (cell_of_block hb (k := 1) rfl).1, (cell_of_block hb (k := 2) rfl).1, (cell_of_block hb (k := 3) rfl).1, (cell_of_block hb (k := 4) rfl).1, (cell_of_block hb (k := 5) rfl).1, (cell_of_block hb (k := 6) rfl).1, (cell_of_block hb (k := 7) rfl).1, (cell_of_block hb (k := 8) rfl).1, (cell_of_block hb (k := 9) rfl).1⟩)
  go_loopw [5] (fun i wr => ∃ k : Nat, k ≤ n ∧ i = .int .i64 k ∧ Hid (Below w1.heap.size w1 wr) ∧ Hid (firstB x t = firstC x.fin t (x.code.drop k))) (fun i _ => n - (intOf i).toNat)
  case atStart => exact ⟨0, Nat.zero_le _, rfl, Lib.hid (Below.refl _ _), Lib.hid (by rw [List.drop_zero]; rfl)⟩
  case round =>
    obtain ⟨k, hk, rfl, HB, HA⟩ := hrel
    obtain ⟨y0, y1, y2, y3, y4, y5, y6, y7, y8, y9⟩ := HCE.out wr HB.out
    by_cases hkn : k < n
    · obtain ⟨y, hy⟩ : ∃ y, x.code[k]? = some y := ⟨_, List.getElem?_eq_getElem (by have := HN.out; omega)⟩
      obtain ⟨g, o, cap, hv, hcap, hgl, hP⟩ := SlR.form2 HC.out (by have := HN.out; omega)
      injection hv with e1 _ e3
      subst e1 e3
      have hBW : Below w.heap.size w wr := below_then HB1.out HB.out
      obtain ⟨va, vr, hR0⟩ := hP k (by have := HN.out; omega) y hy
      have hR := hR0.below hgl hBW
      have ki : (k : Int) < n := by omega
      have k0 : (0 : Int) ≤ k := by omega
      have k2 : (n : Int) ≤ kc := by have := hcap.1; have := HN.out; omega
      have k3 : (kc : Int) ≤ 9223372036854775807 := by have := hcap.2; omega
      have hop := ins_op (blk_ins HF.out hy)
      have HUS := Lib.hid (fun (W : World) (hW : Below wr.heap.size wr W) => usesI_any y va vr W (hR.l.below hW) hop (by have := (HS.out.2.1 y (List.mem_of_getElem? hy)).1; unfold reachBytes at this; omega))
      have HST := Lib.hid (fun (W : World) (hW : Below wr.heap.size wr W) => Graph.sets_any y va vr W (hR.l.below hW))
      unfold insV at HUS HST
      obtain ⟨z0, z1, z2, z3, z4, z5, z6, z7, _⟩ := hR
      have HZ : Hid (∀ W : World, Below wr.heap.size wr W → W.cell? ⟨g, o + k * 8, none⟩ = some (.int .i64 y.op) ∧ W.cell? ⟨g, o + k * 8 + 1, none⟩ = some (.int .i64 y.d) ∧ W.cell? ⟨g, o + k * 8 + 2, none⟩ = some (.int .i64 y.a) ∧ W.cell? ⟨g, o + k * 8 + 3, none⟩ = some (.int .i64 y.b) ∧ W.cell? ⟨g, o + k * 8 + 4, none⟩ = some (.int .i64 y.f) ∧ W.cell? ⟨g, o + k * 8 + 5, none⟩ = some (.int .u32 y.n) ∧ W.cell? ⟨g, o + k * 8 + 6, none⟩ = some va ∧ W.cell? ⟨g, o + k * 8 + 7, none⟩ = some vr) := Lib.hid (fun W hW => by
        have hg2 : g < wr.heap.size := Nat.lt_of_lt_of_le hgl hBW.size
        exact ⟨(cell_below hW hg2 _).trans z0, (cell_below hW hg2 _).trans z1, (cell_below hW hg2 _).trans z2, (cell_below hW hg2 _).trans z3, (cell_below hW hg2 _).trans z4, (cell_below hW hg2 _).trans z5, (cell_below hW hg2 _).trans z6, (cell_below hW hg2 _).trans z7⟩)
      have HSS := Lib.hid (sets_same (x := y) hop HT.out)
      have HFD := Lib.hid (first_drop (e := x.fin) (t := t) hy)
      obtain ⟨_, _, hva⟩ := (hR0.l.args).form
      obtain ⟨_, _, hvr⟩ := (hR0.l.arrs).form
      clear hR0 hy hP hcap hop hBW
      subst hva hvr
      obtain ⟨q, hq⟩ : ∃ q, q = setsI y := ⟨_, rfl⟩
      rw [← hq] at HST HSS
      clear hq
      by_cases hu : t ∈ usesI y
      · have hd : Hid (decide (t ∈ usesI y) = true) := Lib.hid (decide_eq_true hu)
        have hr : Hid (firstB x t = 1) := Lib.hid (by rw [HA.out, HFD.out, if_pos hu])
        clear hu
        go_wp2_with (first
          | (go_at_call 35
             refine (HUS.out _ (Below.refl _ _)).mono ?_
             rintro e w2 ⟨p2, n2, c2, rfl, h2, hb2⟩
             have H2 := Lib.hid h2
             have HB2 := Lib.hid hb2
             clear h2 hb2)
          | (go_at_call 16
             refine (inList_any _ _ t _ H2.out).mono ?_
             rintro e w3 ⟨rfl, rfl⟩
             rw [hd.out]))
        go_ret
        exact ⟨by rw [hr.out]; rfl, below_then HB1.out (below_then HB.out HB2.out)⟩
      · have hd : Hid (decide (t ∈ usesI y) = false) := Lib.hid (decide_eq_false hu)
        by_cases hst : setsT y = true ∧ y.d = t
        · have hqt : (q == t) = true := by simpa using HSS.out.2 hst
          have hr : Hid (firstB x t = 2) := Lib.hid (by rw [HA.out, HFD.out, if_neg hu, if_pos hst])
          clear hu hst
          go_wp2_with (first
            | (go_at_call 35
               refine (HUS.out _ (Below.refl _ _)).mono ?_
               rintro e w2 ⟨p2, n2, c2, rfl, h2, hb2⟩
               have H2 := Lib.hid h2
               have HB2 := Lib.hid hb2
               obtain ⟨y0, _⟩ := HCE.out w2 (below_then HB.out hb2)
               obtain ⟨z0, z1, z2, z3, z4, z5, z6, z7⟩ := HZ.out w2 hb2
               clear h2 hb2)
            | (go_at_call 16
               refine (inList_any _ _ t _ H2.out).mono ?_
               rintro e w3 ⟨rfl, rfl⟩
               rw [hd.out])
            | (go_at_call 36
               refine (HST.out _ HB2.out).mono ?_
               rintro e w4 ⟨rfl, hb4⟩
               have HB4 := Lib.hid hb4
               clear hb4))
          go_ret
          exact ⟨by rw [hr.out]; rfl, below_then HB1.out (below_then HB.out (below_then HB2.out HB4.out))⟩
        · have hqt : (q == t) = false := by simpa using fun h => hst (HSS.out.1 h)
          have hr : Hid (firstB x t = firstC x.fin t (x.code.drop (k + 1))) := Lib.hid (by rw [HA.out, HFD.out, if_neg hu, if_neg hst])
          clear hu hst
          go_wp2_with (first
            | (go_at_call 35
               refine (HUS.out _ (Below.refl _ _)).mono ?_
               rintro e w2 ⟨p2, n2, c2, rfl, h2, hb2⟩
               have H2 := Lib.hid h2
               have HB2 := Lib.hid hb2
               obtain ⟨y0, _⟩ := HCE.out w2 (below_then HB.out hb2)
               obtain ⟨z0, z1, z2, z3, z4, z5, z6, z7⟩ := HZ.out w2 hb2
               clear h2 hb2)
            | (go_at_call 16
               refine (inList_any _ _ t _ H2.out).mono ?_
               rintro e w3 ⟨rfl, rfl⟩
               rw [hd.out])
            | (go_at_call 36
               refine (HST.out _ HB2.out).mono ?_
               rintro e w4 ⟨rfl, hb4⟩
               have HB4 := Lib.hid hb4
               clear hb4))
          exact ⟨⟨k + 1, by omega, by go_num, Lib.hid (below_then HB.out (below_then HB2.out HB4.out)), hr⟩, by simp [intOf]; omega⟩
    · have hkn2 : k = n := by omega
      have hki : ¬ ((k : Int) < n) := by omega
      by_cases hu : t ∈ usesE x.fin
      · have hd : Hid (decide (t ∈ usesE x.fin) = true) := Lib.hid (decide_eq_true hu)
        have hr : Hid (firstB x t = 1) := Lib.hid (by rw [HA.out, hkn2, HN.out, List.drop_length]; unfold firstC; rw [if_pos hu])
        clear hu
        go_wp2_with (first
          | (go_at_call 37
             refine (HEU.out _).mono ?_
             rintro e w2 ⟨p2, n2, c2, rfl, h2, hb2⟩
             have H2 := Lib.hid h2
             have HB2 := Lib.hid hb2
             clear h2 hb2)
          | (go_at_call 16
             refine (inList_any _ _ t _ H2.out).mono ?_
             rintro e w3 ⟨rfl, rfl⟩
             rw [hd.out]))
        go_ret
        exact ⟨by rw [hr.out]; rfl, below_then HB1.out (below_then HB.out HB2.out)⟩
      · have hd : Hid (decide (t ∈ usesE x.fin) = false) := Lib.hid (decide_eq_false hu)
        have hr : Hid (firstB x t = 0) := Lib.hid (by rw [HA.out, hkn2, HN.out, List.drop_length]; unfold firstC; rw [if_neg hu])
        clear hu
        go_wp2_with (first
          | (go_at_call 37
             refine (HEU.out _).mono ?_
             rintro e w2 ⟨p2, n2, c2, rfl, h2, hb2⟩
             have H2 := Lib.hid h2
             have HB2 := Lib.hid hb2
             clear h2 hb2)
          | (go_at_call 16
             refine (inList_any _ _ t _ H2.out).mono ?_
             rintro e w3 ⟨rfl, rfl⟩
             rw [hd.out]))
        go_ret
        exact ⟨by rw [hr.out]; rfl, below_then HB1.out (below_then HB.out HB2.out)⟩
end Go.Proofs.YtcijaaiopfbffaaDoor.Live
namespace Go.Proofs.YtcijaaiopfbffaaDoor.Live
open Go.RowKit Go.Proofs.YtcijaaiopfbffaaDoor.Graph Go.Shelf

def RowsR (w : World) (v : Value) (l : List (List Int)) : Prop := SlR w 1 v l.length fun i b o => ∀ x, l[i]? = some x → ∃ u, w.cell? ⟨b, o, none⟩ = some u ∧ IntsR w u x
theorem RowsR.below {w w' : World} {v : Value} {l : List (List Int)} (h : RowsR w v l) (hb : Below w.heap.size w w') : RowsR w' v l :=
  SlR.below h hb fun _ _ _ hl hP x hx => let ⟨u, h1, h2⟩ := hP x hx; ⟨u, (cell_below hb hl _).trans h1, h2.below hb⟩
set_option maxHeartbeats 4000000 in
set_option maxRecDepth 100000 in
theorem same_true (l : List Int) (va vb : Value) (w : World) (ha : IntsR w va l) (hb : IntsR w vb l) :
    Calls Tryd.prog 19 #[va, vb] w (Is (.bool true) w) := by
  obtain ⟨pa, ca, rfl⟩ := ha.form
  obtain ⟨pb, cb, rfl⟩ := hb.form
  have HA := Lib.hid ha
  have HB := Lib.hid hb
  obtain ⟨n, hn⟩ : ∃ n, n = l.length := ⟨_, rfl⟩
  have HN := Lib.hid hn
  rw [← hn]
  clear ha hb hn
  go_enter Tryd.func19, Tryd.ntmps19
  go_wp2
  go_loopw [5] (fun i wr => ∃ k : Nat, k ≤ n ∧ i = .int .i64 k ∧ Hid (Below w.heap.size w wr)) (fun i _ => n - (intOf i).toNat)
  case atStart => exact ⟨0, Nat.zero_le _, rfl, Lib.hid (Below.refl _ _)⟩
  case round =>
    obtain ⟨k, hk, rfl, HW⟩ := hrel
    by_cases hkn : k < n
    · obtain ⟨x, hx⟩ : ∃ x, l[k]? = some x := ⟨_, List.getElem?_eq_getElem (by have := HN.out; omega)⟩
      obtain ⟨g, o, c', hv, hc, hg, hc1, hc2⟩ := ints_cell (HA.out.below HW.out) hx
      obtain ⟨g', o', c'', hv', hc', hg', hc1', hc2'⟩ := ints_cell (HB.out.below HW.out) hx
      rw [← HN.out] at hv hc1 hv' hc1'
      injection hv with e1 _ e3
      subst e1 e3
      injection hv' with e1 _ e3
      subst e1 e3
      have ki : (k : Int) < n := by omega
      have k0 : (0 : Int) ≤ k := by omega
      have k2 : (n : Int) ≤ ca := by omega
      have k3 : (ca : Int) ≤ 9223372036854775807 := by omega
      have k4 : (n : Int) ≤ cb := by omega
      have k5 : (cb : Int) ≤ 9223372036854775807 := by omega
      clear hx hc1 hc2 hc1' hc2'
      go_upto_region 6 with (fail)
      go_cut [25] from 17 to 25 (fun v wq => v = .bool false ∧ Hid (Below wr.heap.size wr wq))
      case first =>
        go_region
        all_goals
          go_wp2
          go_meet
          exact ⟨by simp, Lib.hid (Graph.below_drewN wr _)⟩
      case rest =>
        obtain ⟨rfl, HQ⟩ := hcut
        clear hc hc' 
        go_wp2
        exact ⟨⟨k + 1, by omega, by go_num, Lib.hid (below_then HW.out HQ.out)⟩, by simp [intOf]; omega⟩
    · have hkn2 : k = n := by omega
      have hki : ¬ ((k : Int) < n) := by omega
      go_wp2
      go_ret
      exact ⟨rfl, HW.out⟩
set_option maxHeartbeats 4000000 in
set_option maxRecDepth 100000 in
theorem sameAll_true (l : List (List Int)) (va vb : Value) (w : World) (ha : RowsR w va l) (hb : RowsR w vb l) :
    Calls Tryd.prog 13 #[va, vb] w (Is (.bool true) w) := by
  obtain ⟨pa, ca, rfl⟩ := ha.form
  obtain ⟨pb, cb, rfl⟩ := hb.form
  have HA := Lib.hid ha
  have HB := Lib.hid hb
  obtain ⟨n, hn⟩ : ∃ n, n = l.length := ⟨_, rfl⟩
  have HN := Lib.hid hn
  rw [← hn]
  clear ha hb hn
  go_enter Tryd.func13, Tryd.ntmps13
  go_wp2
  go_loopw [5] (fun i wr => ∃ k : Nat, k ≤ n ∧ i = .int .i64 k ∧ Hid (Below w.heap.size w wr)) (fun i _ => n - (intOf i).toNat)
  case atStart => exact ⟨0, Nat.zero_le _, rfl, Lib.hid (Below.refl _ _)⟩
  case round =>
    obtain ⟨k, hk, rfl, HW⟩ := hrel
    by_cases hkn : k < n
    · obtain ⟨x, hx⟩ : ∃ x, l[k]? = some x := ⟨_, List.getElem?_eq_getElem (by have := HN.out; omega)⟩
      obtain ⟨g, o, c', hv, hcap, hg, hP⟩ := SlR.form2 (HA.out.below HW.out) (by have := HN.out; omega)
      obtain ⟨g', o', c'', hv', hcap', hg', hP'⟩ := SlR.form2 (HB.out.below HW.out) (by have := HN.out; omega)
      injection hv with e1 _ e3
      subst e1 e3
      injection hv' with e1 _ e3
      subst e1 e3
      obtain ⟨u, hu1, hu2⟩ := hP k (by have := HN.out; omega) x hx
      obtain ⟨u', hu1', hu2'⟩ := hP' k (by have := HN.out; omega) x hx
      rw [Nat.mul_one] at hu1 hu1'
      have ki : (k : Int) < n := by omega
      have k0 : (0 : Int) ≤ k := by omega
      have k2 : (n : Int) ≤ ca := by have := HN.out; omega
      have k3 : (ca : Int) ≤ 9223372036854775807 := by omega
      have k4 : (n : Int) ≤ cb := by have := HN.out; omega
      have k5 : (cb : Int) ≤ 9223372036854775807 := by omega
      have HSM := Lib.hid (fun (W : World) (hW : Below wr.heap.size wr W) => same_true x u u' W (hu2.below hW) (hu2'.below hW))
      have HCE : Hid (∀ W : World, Below wr.heap.size wr W → W.cell? ⟨g, o + k, none⟩ = some u ∧ W.cell? ⟨g', o' + k, none⟩ = some u') := Lib.hid (fun W hW => ⟨(cell_below hW hg _).trans hu1, (cell_below hW hg' _).trans hu1'⟩)
      obtain ⟨q, qn, rfl⟩ := hu2.form
      obtain ⟨q', qn', rfl⟩ := hu2'.form
      clear hx hcap hcap' hP hP' hu2 hu2'
      go_upto_region 6 with (fail)
      go_cut [26] from 17 to 26 (fun v wq => v = .bool false ∧ Hid (Below wr.heap.size wr wq))
      case first =>
        go_region_held3 (fun W => W.cell? ⟨g, o + k, none⟩ = some (.slice q x.length qn) ∧ W.cell? ⟨g', o' + k, none⟩ = some (.slice q' x.length qn')) (go_keep) (first
          | (go_at_call 19
             refine (HSM.out _ (Below.refl _ _).drew).mono ?_
             rintro e w5 ⟨rfl, hb5⟩
             have HB5 : Hid (Below wr.heap.size wr w5) := Lib.hid (below_then (Below.refl _ _).drew hb5)
             obtain ⟨z0, z1⟩ := HCE.out w5 HB5.out
             clear hb5))
        all_goals
          go_wp2
          go_meet
          exact ⟨rfl, HB5⟩
      case rest =>
        obtain ⟨rfl, HQ⟩ := hcut
        clear hu1 hu1'
        go_wp2
        exact ⟨⟨k + 1, by omega, by go_num, Lib.hid (below_then HW.out HQ.out)⟩, by simp [intOf]; omega⟩
    · have hkn2 : k = n := by omega
      have hki : ¬ ((k : Int) < n) := by omega
      go_wp2
      go_ret
      exact ⟨rfl, HW.out⟩
/-- The graph of the law's alive. -/
def alG : PGr := ⟨[], 3, [], [⟨[⟨6, 0, 1, 2, 0, 0, [], []⟩], ⟨5, 0, 0, 0, 0, 0, 0, [], []⟩⟩]⟩
theorem al_need (b : Nat) (t : Int) : Need alG b t ↔ b = 0 ∧ (t = 1 ∨ t = 2) := by
  constructor
  · intro h
    have hb : b = 0 := by have := h.lt; simp [alG] at this; omega
    subst hb
    refine ⟨rfl, ?_⟩
    cases h with
    | use hb h1 =>
      simp only [alG, List.getElem?_cons_zero, Option.some.injEq] at hb
      subst hb
      simp only [firstB, firstC, usesI, setsT, usesE] at h1
      by_cases h2 : t = 1 ∨ t = 2
      · exact h2
      · have e1 : ¬ t = 1 := fun h => h2 (.inl h)
        have e2 : ¬ t = 2 := fun h => h2 (.inr h)
        by_cases e0 : t = 0
        · subst e0; simp at h1
        · have e0' : ¬ (0 : Int) = t := fun h => e0 h.symm
          simp [e0, e0', e1, e2] at h1
    | step hb _ hc _ =>
      simp only [alG, List.getElem?_cons_zero, Option.some.injEq] at hb
      subst hb
      simp [namedN] at hc
  · rintro ⟨rfl, h⟩
    refine .use (blk := ⟨[⟨6, 0, 1, 2, 0, 0, [], []⟩], ⟨5, 0, 0, 0, 0, 0, 0, [], []⟩⟩) rfl ?_
    rcases h with rfl | rfl <;> rfl
theorem al_list : needN alG 0 = [1, 2] := by
  unfold needN
  rw [show alG.temps.toNat = 3 by rfl, show List.range 3 = [0, 1, 2] by rfl]
  have h0 : ¬ Need alG 0 ((0 : Nat) : Int) := fun h => by have := (al_need _ _).1 h; omega
  have h1 : Need alG 0 ((1 : Nat) : Int) := (al_need _ _).2 ⟨rfl, .inl rfl⟩
  have h2 : Need alG 0 ((2 : Nat) : Int) := (al_need _ _).2 ⟨rfl, .inr rfl⟩
  rw [List.filter_cons_of_neg (by simpa using h0), List.filter_cons_of_pos (by simpa using h1), List.filter_cons_of_pos (by simpa using h2), List.filter_nil]
theorem al_fits : fitsB alG = true := by decide
theorem al_sm : SmG alG := by simp [SmG, alG, SmB, SmI, SmE, reachBytes]
end Go.Proofs.YtcijaaiopfbffaaDoor.Live
namespace Go.Proofs.YtcijaaiopfbffaaDoor.Live
open Go.RowKit Go.Proofs.YtcijaaiopfbffaaDoor.Graph Go.Shelf

def alIns : Obj := .cells #[.int .i64 6, .int .i64 0, .int .i64 1, .int .i64 2, .int .i64 0, .int .u32 0, .slice none 0 0, .slice none 0 0] 77
def alBlk (g : Nat) : Obj := .cells #[.slice (some ⟨g, 0, none⟩) 1 1, .int .i64 5, .int .i64 0, .int .i64 0, .int .i64 0, .int .u32 0, .int .i64 0, .int .i64 0, .slice none 0 0, .slice none 0 0] 42
theorem al_lies (w W : World) (hb : Below (w.heap.size + 2) ((w.alloc alIns).alloc (alBlk w.heap.size)) W) : GrL W (.slice none 0 0) (.slice none 0 0) (.slice (some ⟨w.heap.size + 1, 0, none⟩) 1 1) alG := by
  have hi : W.heap[w.heap.size]? = some alIns := by
    rw [hb.block _ (by omega), Below.heap_alloc _ _ _ (by simp)]
    exact World.alloc_heap_new w alIns
  have hk : W.heap[w.heap.size + 1]? = some (alBlk w.heap.size) := by
    rw [hb.block _ (by omega)]
    have := World.alloc_heap_new (w.alloc alIns) (alBlk w.heap.size)
    simpa using this
  have l1 := (Array.getElem?_eq_some_iff.1 hi).1
  have l2 := (Array.getElem?_eq_some_iff.1 hk).1
  unfold alIns at hi
  unfold alBlk at hk
  refine ⟨.inl ⟨rfl, _, _, rfl⟩, .inl ⟨rfl, _, _, rfl⟩, .inr ⟨w.heap.size + 1, 0, 1, rfl, by decide, by decide, l2, fun i hi1 x hx => ?_⟩⟩
  have hi1 : i < 1 := hi1
  obtain rfl : i = 0 := by omega
  simp only [alG, List.getElem?_cons_zero, Option.some.injEq] at hx
  subst hx
  refine ⟨_, _, _, (cell_of_block hk (k := 0) rfl).1, .inr ⟨w.heap.size, 0, 1, rfl, by decide, by decide, l1, fun j hj1 y hy => ?_⟩, (cell_of_block hk (k := 1) rfl).1, (cell_of_block hk (k := 2) rfl).1, (cell_of_block hk (k := 3) rfl).1, (cell_of_block hk (k := 4) rfl).1, (cell_of_block hk (k := 5) rfl).1, (cell_of_block hk (k := 6) rfl).1, (cell_of_block hk (k := 7) rfl).1, (cell_of_block hk (k := 8) rfl).1, (cell_of_block hk (k := 9) rfl).1, .inl ⟨rfl, _, _, rfl⟩, .inl ⟨rfl, _, _, rfl⟩, by decide⟩
  have hj1 : j < 1 := hj1
  obtain rfl : j = 0 := by omega
  simp only [List.getElem?_cons_zero, Option.some.injEq] at hy
  subst hy
  exact ⟨_, _, (cell_of_block hi (k := 0) rfl).1, (cell_of_block hi (k := 1) rfl).1, (cell_of_block hi (k := 2) rfl).1, (cell_of_block hi (k := 3) rfl).1, (cell_of_block hi (k := 4) rfl).1, (cell_of_block hi (k := 5) rfl).1, (cell_of_block hi (k := 6) rfl).1, (cell_of_block hi (k := 7) rfl).1, .inl ⟨rfl, _, _, rfl⟩, .inl ⟨rfl, _, _, rfl⟩, by decide⟩
/-- What Live tells, as lists of lists. -/
noncomputable def liveL (x : PGr) : List (List Int) := (List.range x.blocks.length).map (needL x)
theorem LiveOut.rows {x : PGr} {n rb : Nat} {vs : Nat → Value} {w w' : World} (h : LiveOut x n rb vs w w') (hn : n = x.blocks.length) (hb : n ≤ 20000) : RowsR w' (.slice (some ⟨rb, 0, none⟩) n n) (liveL x) := by
  have hl : (liveL x).length = n := by unfold liveL; rw [List.length_map, List.length_range, hn]
  unfold RowsR
  rw [hl]
  rcases Nat.eq_zero_or_pos n with h0 | h0
  · exact .inl ⟨h0, _, _, by rw [h0]⟩
  · refine .inr ⟨rb, 0, n, rfl, h0, ⟨Nat.le_refl _, by omega⟩, h.ah.lt, fun i hi y hy => ⟨vs i, ?_, ?_⟩⟩
    · rw [Nat.mul_one, Nat.zero_add]; exact (h.ah.cell hi).1
    · have : y = needL x i := by
        unfold liveL at hy
        rw [List.getElem?_map, List.getElem?_range (by omega)] at hy
        injection hy with hy; exact hy.symm
      rw [this]
      exact ints_own (h.ah.rows i hi)
theorem al_liveL : liveL alG = [[1, 2]] := by
  unfold liveL
  rw [show alG.blocks.length = 1 by rfl, show List.range 1 = [0] by rfl]
  simp only [List.map_cons, List.map_nil]
  unfold needL
  rw [al_list]; rfl
theorem al_live (w W : World) (hb : Below (w.heap.size + 2) ((w.alloc alIns).alloc (alBlk w.heap.size)) W) (hT : TabAt 0 Lib.deBruijn64tab W) (h0 : 0 < W.heap.size) :
    Calls Tryd.prog 10 #[.agg #[.slice none 0 0, .int .i64 3, .slice none 0 0, .slice (some ⟨w.heap.size + 1, 0, none⟩) 1 1]] W (LiveOk alG 1 W) :=
  live_ok alG (.slice none 0 0) (.slice none 0 0) (.slice (some ⟨w.heap.size + 1, 0, none⟩) 1 1) W (al_lies w W hb) al_sm.n al_fits hT h0
theorem rows_12 (W W' : World) (hb : Below (W.heap.size + 2) ((W.alloc (.cells #[.int .i64 1, .int .i64 2] 3)).alloc (.cells #[.slice (some ⟨W.heap.size, 0, none⟩) 2 2] 22)) W') : RowsR W' (.slice (some ⟨W.heap.size + 1, 0, none⟩) 1 1) [[1, 2]] := by
  have hi : W'.heap[W.heap.size]? = some (.cells #[.int .i64 1, .int .i64 2] 3) := by
    rw [hb.block _ (by omega), Below.heap_alloc _ _ _ (by simp)]
    exact World.alloc_heap_new W _
  have hk : W'.heap[W.heap.size + 1]? = some (.cells #[.slice (some ⟨W.heap.size, 0, none⟩) 2 2] 22) := by
    rw [hb.block _ (by omega)]
    have := World.alloc_heap_new (W.alloc (.cells #[.int .i64 1, .int .i64 2] 3)) (.cells #[.slice (some ⟨W.heap.size, 0, none⟩) 2 2] 22)
    simpa using this
  refine .inr ⟨W.heap.size + 1, 0, 1, rfl, by decide, by decide, (Array.getElem?_eq_some_iff.1 hk).1, fun i hi1 y hy => ?_⟩
  have hi1 : i < 1 := hi1
  obtain rfl : i = 0 := by omega
  simp only [List.getElem?_cons_zero, Option.some.injEq] at hy
  subst hy
  refine ⟨_, (cell_of_block hk (k := 0) rfl).1, .inr ⟨W.heap.size, 0, 2, rfl, by decide, by decide, (Array.getElem?_eq_some_iff.1 hi).1, fun j hj1 z hz => ?_⟩⟩
  match j, hz with
  | 0, hz => injection hz with hz; subst hz; exact (cell_of_block hi (k := 0) rfl).1
  | 1, hz => injection hz with hz; subst hz; exact (cell_of_block hi (k := 1) rfl).1
set_option maxHeartbeats 4000000 in
set_option maxRecDepth 100000 in
theorem alive_any (w : World) (hT : TabAt 0 Lib.deBruijn64tab w) (h0 : 0 < w.heap.size) : Calls Tryd.prog 12 #[] w (Is (.bool true) w) := by
  have HLV : Hid (Calls Tryd.prog 10 #[.agg #[.slice none 0 0, .int .i64 3, .slice none 0 0, .slice (some ⟨w.heap.size + 1, 0, none⟩) 1 1]] (((w.alloc alIns).alloc (alBlk w.heap.size)).alloc (.cells #[.slice none 0 0, .int .i64 3, .slice none 0 0, .slice (some ⟨w.heap.size + 1, 0, none⟩) 1 1] 26)) (LiveOk alG 1 (((w.alloc alIns).alloc (alBlk w.heap.size)).alloc (.cells #[.slice none 0 0, .int .i64 3, .slice none 0 0, .slice (some ⟨w.heap.size + 1, 0, none⟩) 1 1] 26)))) := Lib.hid (by
    have h1 : Below w.heap.size w (((w.alloc alIns).alloc (alBlk w.heap.size)).alloc (.cells #[.slice none 0 0, .int .i64 3, .slice none 0 0, .slice (some ⟨w.heap.size + 1, 0, none⟩) 1 1] 26)) := ((Graph.below_alloc w _).alloc (by simp) _).alloc (by simp; omega) _
    refine al_live w _ ?_ (tab_below hT h0 h1) (Nat.lt_of_lt_of_le h0 h1.size)
    exact (Below.refl _ _).alloc (by simp) _)
  have HW : Hid (Below w.heap.size w (((w.alloc alIns).alloc (alBlk w.heap.size)).alloc (.cells #[.slice none 0 0, .int .i64 3, .slice none 0 0, .slice (some ⟨w.heap.size + 1, 0, none⟩) 1 1] 26))) := Lib.hid (((Graph.below_alloc w _).alloc (by simp) _).alloc (by simp; omega) _)
  clear hT h0
  unfold alIns alBlk at HLV HW
  go_enter Tryd.func12, Tryd.ntmps12
  go_wp2_with (first
    | (go_at_call 10
       refine HLV.out.mono ?_
       rintro e w5 ⟨rb, vs, rfl, h5⟩
       have H5 := Lib.hid h5
       clear h5)
    | (go_at_call 13
       have hb6 := ((Graph.below_alloc w5 (.cells #[.int .i64 1, .int .i64 2] 3)).alloc (by simp) (.cells #[.slice (some ⟨w5.heap.size, 0, none⟩) 2 2] 22))
       refine (sameAll_true [[1, 2]] _ _ _ (by rw [← al_liveL]; exact (H5.out.rows rfl (by decide)).below hb6) (rows_12 w5 _ (Below.refl _ _))).mono ?_
       rintro e w7 ⟨rfl, hb7⟩
       have HB6 := Lib.hid hb6
       have HB7 := Lib.hid hb7
       clear hb6 hb7))
  go_ret
  exact ⟨rfl, below_then HW.out (below_then H5.out.below (below_then HB6.out HB7.out))⟩
end Go.Proofs.YtcijaaiopfbffaaDoor.Live
