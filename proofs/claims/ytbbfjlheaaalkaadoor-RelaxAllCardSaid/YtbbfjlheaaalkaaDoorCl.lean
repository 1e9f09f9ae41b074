/- The law's Copy of a list of lines: the same lines, in memory of its own. No condition. -/
import Derived.Test.YtbbfjlheaaalkaaDoorLs
import Derived.Test.YtbbfjlheaaalkaaDoorQc
namespace Go.Proofs.YtbbfjlheaaalkaaDoor.Relax
open Go.RowKit Go.Proofs.YtbbfjlheaaalkaaDoor.Enc Go.Proofs.YtbbfjlheaaalkaaDoor.Graph

def OffB (g : Nat) (v : Value) : Prop := ∀ b o s n c, v = .slice (some ⟨b, o, s⟩) n c → b ≠ g
theorem ints_set {w : World} {v : Value} {l : List Int} {g o : Nat} {u : Value} (h : IntsR w v l) (hf : OffB g v) : IntsR (w.setCell ⟨g, o, none⟩ u) v l := by
  rcases h with ⟨h0, p, c, h1⟩ | ⟨b, o2, c, h1, h2, h3, h4, h5⟩
  · exact .inl ⟨h0, p, c, h1⟩
  · have hne := hf b o2 none _ _ h1
    refine .inr ⟨b, o2, c, h1, h2, h3, by simpa [World.setCell] using h4, fun i hi x hx => ?_⟩
    rw [World.cell?_setCell_other _ _ _ _ (fun e => hne (by injection e with e; exact e.symm))]
    exact h5 i hi x hx
/-- In the middle of the copy: so many lists are copied. -/
structure CopyS (w : World) (l : List PL) (g k : Nat) (wr : World) : Prop where
  below : Below w.heap.size w wr
  lo : w.heap.size ≤ g
  hi : g < wr.heap.size
  unf : ∃ cs t, wr.heap[g]? = some (.cells cs t (0, 0))
  c0 : ∀ j x, l[j]? = some x → wr.cell? ⟨g, j * 7, none⟩ = some (.int .i64 x.op) ∧ wr.cell? ⟨g, j * 7 + 1, none⟩ = some (.int .i64 x.a) ∧ wr.cell? ⟨g, j * 7 + 2, none⟩ = some (.int .i64 x.b) ∧
    wr.cell? ⟨g, j * 7 + 3, none⟩ = some (.int .i64 x.imm) ∧ wr.cell? ⟨g, j * 7 + 4, none⟩ = some (.int .u32 x.n) ∧ wr.cell? ⟨g, j * 7 + 5, none⟩ = some (.int .i64 x.label) ∧ ∃ vl, wr.cell? ⟨g, j * 7 + 6, none⟩ = some vl
  done : ∀ j x, j < k → l[j]? = some x → ∃ vl, wr.cell? ⟨g, j * 7 + 6, none⟩ = some vl ∧ IntsR wr vl x.list ∧ OffB g vl
theorem CopyS.step {w wr w5 : World} {l : List PL} {g k : Nat} (h : CopyS w l g k wr) {x : PL} (hx : l[k]? = some x) {v5 : Value} (hl : IntsR w5 v5 x.list) (hb : Below wr.heap.size wr w5) (hf : ∀ b o s n c, v5 = .slice (some ⟨b, o, s⟩) n c → wr.heap.size ≤ b) :
    CopyS w l g (k + 1) (w5.setCell ⟨g, k * 7 + 6, none⟩ v5) := by
  have hg := h.hi
  have hf5 : OffB g v5 := fun b o s n c e => by have := hf b o s n c e; omega
  have keep : ∀ o u, wr.cell? ⟨g, o, none⟩ = some u → o ≠ k * 7 + 6 → (w5.setCell ⟨g, k * 7 + 6, none⟩ v5).cell? ⟨g, o, none⟩ = some u := fun o u hu hne => by
    rw [World.cell?_setCell_other _ _ _ _ (fun e => hne (by injection e with _ e; exact e.symm))]
    exact (hb.cell (p := ⟨g, o, none⟩) hg).trans hu
  obtain ⟨_, _, _, _, _, _, vo, hvo⟩ := h.c0 k x hx
  have same : (w5.setCell ⟨g, k * 7 + 6, none⟩ v5).cell? ⟨g, k * 7 + 6, none⟩ = some v5 := World.cell?_setCell_same _ _ _ ((hb.cell (p := ⟨g, k * 7 + 6, none⟩) hg).trans hvo)
  have hu6 : ∃ cs t, (w5.setCell ⟨g, k * 7 + 6, none⟩ v5).heap[g]? = some (.cells cs t (0, 0)) := by
    obtain ⟨cs, t, hu⟩ := h.unf
    exact ⟨_, _, heap_setCell_same w5 g (k * 7 + 6) cs t v5 ((hb.block g hg).trans hu)⟩
  refine ⟨(h.below.trans (hb.mono h.below.size)).setCell h.lo _, h.lo, by have := hb.size; simp [World.setCell]; omega, hu6, fun j y hy => ?_, fun j y hj hy => ?_⟩
  · obtain ⟨q0, q1, q2, q3, q4, q5, vl, q6⟩ := h.c0 j y hy
    refine ⟨keep _ _ q0 (by omega), keep _ _ q1 (by omega), keep _ _ q2 (by omega), keep _ _ q3 (by omega), keep _ _ q4 (by omega), keep _ _ q5 (by omega), ?_⟩
    by_cases hjk : j = k
    · subst hjk; exact ⟨_, same⟩
    · exact ⟨_, keep _ _ q6 (by omega)⟩
  · by_cases hjk : j = k
    · subst hjk
      rw [hx] at hy
      injection hy with hy
      subst hy
      exact ⟨_, same, ints_set hl hf5, hf5⟩
    · obtain ⟨vl, q6, q7, q8⟩ := h.done j y (by omega) hy
      exact ⟨vl, keep _ _ q6 (by omega), ints_set (q7.below hb) q8, q8⟩
theorem CopyS.start {w w' : World} {l : List PL} {ps : List (PL × Value)} {g cap : Nat} {t : TypeId} (h : w'.ownsRow w.heap.size t 7 (.slice (some ⟨g, 0, none⟩) l.length cap) l.length (flatL ps)) (hps : ps.map (·.1) = l) (hn : 0 < l.length) (hb : Below w.heap.size w w') : CopyS w l g 0 w' := by
  obtain ⟨g2, cap2, e, h1, _, _, h2, h3⟩ := row_at h hn
  injection e with e _ _
  injection e with e
  injection e with e _ _
  subst e
  have hu : ∃ cs t, w'.heap[g]? = some (.cells cs t (0, 0)) := by
    obtain ⟨_, ⟨e, _⟩ | ⟨g3, cap3, cur, e, _, h7, _⟩⟩ := h
    · injection e with e; cases e
    · injection e with e _ _
      injection e with e
      injection e with e _ _
      subst e; exact ⟨_, _, h7⟩
  refine ⟨hb, h1, h2, hu, fun j x hx => ?_, fun j x hj => absurd hj (Nat.not_lt_zero _)⟩
  subst hps
  rw [List.getElem?_map] at hx
  obtain ⟨q, hq, rfl⟩ := Option.map_eq_some_iff.1 hx
  have hj : ∀ i u, i < 7 → (lineCs q)[i]? = some u → w'.cell? ⟨g, j * 7 + i, none⟩ = some u := fun i u hi hu => h3 _ _ (by rw [flat_get ps j i q hq hi]; exact hu)
  exact ⟨hj 0 _ (by omega) rfl, hj 1 _ (by omega) rfl, hj 2 _ (by omega) rfl, hj 3 _ (by omega) rfl, hj 4 _ (by omega) rfl, hj 5 _ (by omega) rfl, _, hj 6 _ (by omega) rfl⟩
theorem CopyS.lines {w wr : World} {l : List PL} {g n cap : Nat} (h : CopyS w l g n wr) (hn : n = l.length) (h0 : 0 < n) (hc : n ≤ cap) (hc2 : cap ≤ 9223372036854775807) : LinesR wr (.slice (some ⟨g, 0, none⟩) n cap) l := by
  subst hn
  refine .inr ⟨g, 0, cap, rfl, h0, ⟨hc, hc2⟩, h.hi, fun i hi x hx => ?_⟩
  obtain ⟨q0, q1, q2, q3, q4, q5, _, _⟩ := h.c0 i x hx
  obtain ⟨vl, q6, q7, _⟩ := h.done i x hi hx
  rw [Nat.zero_add]
  exact ⟨vl, q0, q1, q2, q3, q4, q5, q6, q7⟩
def CopyPost (l : List PL) (w : World) (e : Ending) (w' : World) : Prop := ∃ v', e = .returned v' ∧ LinesR w' v' l ∧ Below w.heap.size w w' ∧ (l.length = 0 → v' = .slice none 0 0)
set_option maxHeartbeats 16000000 in
set_option maxRecDepth 100000 in
theorem copy_any (l : List PL) (v : Value) (w : World) (h : LinesR w v l) (hs : ∀ x ∈ l, x.list.length ≤ 100000000000) (hn6 : l.length ≤ 100000) :
    Calls Tryd.prog 6 #[v] w (CopyPost l w) := by
  obtain ⟨p, c, rfl⟩ := h.form
  rcases Nat.eq_zero_or_pos l.length with h0 | hn0
  · rw [h0]
    have hout : LinesR w (.slice none 0 0) l := .inl ⟨h0, none, 0, rfl⟩
    clear h
    go_enter Tryd.func6, Tryd.ntmps6
    go_wp2_with (at_builtin; refine wpList_append_nil0 ?a1 (.tmp 6) (.tmp 7) 22 ?a2 39 7 Tryd.underlying22 (by kernel_rfl) c p ?a3 ?a4 ?a5; (case a1 => rfl); (case a2 => rfl); (case a3 => rfl); (case a4 => rfl))
    go_loopw [4] (fun i wr => i = .int .i64 0 ∧ wr = w) (fun _ _ => 0)
    case atStart => exact ⟨rfl, rfl⟩
    case round =>
      obtain ⟨rfl, rfl⟩ := hrel
      go_wp2
      go_ret
      exact ⟨_, rfl, hout, Below.refl _ _, fun _ => rfl⟩
  obtain ⟨ps, hps, hla, _, hat⟩ := lines_open h
  obtain ⟨g, o, rfl, hgl, hat, hcap, hcm⟩ := hat hn0
  have hpl : ps.length = l.length := by rw [← hps, List.length_map]
  have HV := Lib.hid h
  obtain ⟨n, hN⟩ : ∃ n, n = l.length := ⟨_, rfl⟩
  have HN := Lib.hid hN
  have HS := Lib.hid hs
  have HPS := Lib.hid hps
  have HLA := Lib.hid hla
  rw [← hN] at hn0 hcap hn6 HV hpl ⊢
  have j1 : (n : Int) ≤ c := by omega
  have j2 : (c : Int) ≤ 9223372036854775807 := by omega
  have j3 : (n : Int) ≤ 100000 := by omega
  have HAT := Lib.hid hat
  have HNEW : Hid (∀ j u, (flatL ps)[j]? = some u → w.cell? ((⟨g, o, none⟩ : Addr).add j) = some u) := Lib.hid (fun j u hu => by rw [Go.WideShapes.add_plain]; exact hat j u hu)
  clear h hs hps hla hat hN
  go_enter Tryd.func6, Tryd.ntmps6
  go_wp2_with (at_builtin
               refine wpList_append_lines ?b1 (.tmp 6) (.tmp 7) ?b2 w.heap.size (.slice none 0 0) 0 [] ps ?b3 (World.ownsRow_nil _ _ _ _) ⟨g, o, none⟩ n c ?b4 hpl.symm HNEW.out HLA.out.one (by omega) (Nat.le_refl _) ?b5
               (case b1 => rfl)
               (case b2 => rfl)
               (case b3 => rfl)
               (case b4 => rfl)
               intro v4 w4 h5 h6 _
               rw [Nat.zero_add, List.nil_append] at h5
               have hv4 := row_at h5 hn0
               obtain ⟨g4, cap4, rfl, _, hc4, hc5, _, _⟩ := hv4
               have HC4 : Hid (CopyS w l g4 0 w4) := Lib.hid (CopyS.start (cap := cap4) (by rw [← HN.out]; exact h5) HPS.out (by rw [← HN.out]; exact hn0) h6)
               clear h5 h6)
  have i9 : (n : Int) ≤ cap4 := by omega
  have i10 : (cap4 : Int) ≤ 9223372036854775807 := by omega
  go_loopw [4] (fun i wr => ∃ k : Nat, k ≤ n ∧ i = .int .i64 k ∧ Hid (CopyS w l g4 k wr)) (fun i _ => n - (intOf i).toNat)
  case atStart => exact ⟨0, Nat.zero_le _, rfl, HC4⟩
  case round =>
    obtain ⟨k, hk, rfl, HC⟩ := hrel
    have i0 : (0 : Int) ≤ k := by omega
    by_cases hlt : k < n
    · have hkl : k < l.length := by rw [← HN.out]; exact hlt
      obtain ⟨x, hx⟩ := getN (n := l.length) rfl hkl
      have i1 : (k : Int) < n := by omega
      have HVR := Lib.hid (HV.out.below HC.out.below)
      have hLx : ∃ vl, LineR wr g (o + k * 7) x vl ∧ g < wr.heap.size := by
        rcases HVR.out with ⟨hz, _⟩ | ⟨g2, o2, cap2, e2, _, _, hg2, hc⟩
        · have := HN.out; omega
        · injection e2 with e2 _ _
          injection e2 with e2
          injection e2 with e2 e3
          subst e2 e3
          obtain ⟨vl, h9⟩ := hc k hkl x hx
          exact ⟨vl, h9, hg2⟩
      obtain ⟨vl, hLx, hg9⟩ := hLx
      have q6 := hLx.cl
      have q7 := hLx.list
      obtain ⟨lp, lc, rfl⟩ := q7.form
      have hsz := HS.out x (List.mem_of_getElem? hx)
      have HQ := Lib.hid q7
      obtain ⟨_, _, _, _, _, _, vo, hvo⟩ := HC.out.c0 k x hx
      obtain ⟨ucs, ut, hun⟩ := HC.out.unf
      have hg4 := HC.out.hi
      have hne : g ≠ g4 := by have := HC.out.lo; omega
      have HST := Lib.hid (fun (v5 : Value) (w5 : World) (hl : IntsR w5 v5 x.list) hb hf => HC.out.step hx (v5 := v5) (w5 := w5) hl hb hf)
      clear hx hLx q7 HVR hkl HC
      generalize x.list = xl at hsz HQ q6 HST
      go_wp2_with (at_builtin
                   refine wpList_copy_ints ?c1 (.tmp 17) (.tmp 22) ?c2 xl lp lc ?c3 ?c4 HQ.out hsz ?c5
                   (case c1 => rfl)
                   (case c2 => rfl)
                   (case c3 => rfl)
                   (case c4 => rfl)
                   intro v5 w5 hl5 hb5 hf5
                   have hv5 := hl5.form
                   obtain ⟨p5, c5, rfl⟩ := hv5
                   have HS5 := Lib.hid (HST.out _ w5 hl5 hb5 hf5)
                   have e5 : w5.cell? ⟨g4, k * 7 + 6, none⟩ = some vo := (hb5.cell (p := ⟨g4, k * 7 + 6, none⟩) hg4).trans hvo
                   have e6 : w5.frozen? ⟨g4, k * 7 + 6, none⟩ = false := by have := (hb5.block g4 hg4).trans hun; simp [World.frozen?, this]
                   clear hl5 hb5 hf5)
      exact ⟨⟨k + 1, by omega, by go_num, HS5⟩, by simp [intOf]; omega⟩
    · have i1 : decide (k < n) = false := decide_eq_false hlt
      have hkn : k = n := by omega
      subst hkn
      clear hlt
      go_wp2
      go_ret
      exact ⟨_, rfl, HC.out.lines HN.out hn0 hc4 hc5, HC.out.below, fun h => by have := HN.out; omega⟩
end Go.Proofs.YtbbfjlheaaalkaaDoor.Relax
