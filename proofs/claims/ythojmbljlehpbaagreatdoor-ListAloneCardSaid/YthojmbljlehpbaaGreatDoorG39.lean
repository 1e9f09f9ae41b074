/- What every row of the seat of layer list gives a walk: what its package variables hold; and a world for the witness. -/
import Derived.Test.YthojmbljlehpbaaGreatDoorG15
import Derived.Test.YthojmbljlehpbaaGreatDoorCards
import Derived.Test.YthojmbljlehpbaaGreatDoorTie
import Derived.ProofKit
import Derived.OpenShut
import Derived.LaidMore
import Derived.Lay
import Derived.SevenTiedAt
import Derived.Deep.DeepHandedRow
import Derived.Deep.DeepWitnessRowRef
import Derived.Stop.LaidErr
import Derived.Test.YthojmbljlehpbaaGreatDoorG06
import Derived.Test.YthojmbljlehpbaaGreatDoorG38
import Derived.SizedLaws
namespace Go.Proofs.YthojmbljlehpbaaGreatDoor
open Go.ChangeShapes Go.WideShapes Go.ChangeAt Go.RowKit

theorem own : ownKnob Tryz.prog.godebug = none := by kernel_rfl
/-- The list that every row of this seat bears. -/
def laidAll : List (String × DataW Unit) := [("math/bits.deBruijn32tab", Rows.laid_math_bits_deBruijn32tab), ("math/bits.deBruijn64tab", Rows.laid_math_bits_deBruijn64tab), ("internal/strconv.uint64pow10", Rows.laid_internal_strconv_uint64pow10), ("switchback/enc.forms", Rows.laid_switchback_enc_forms), ("strconv.ErrRange", Rows.laid_strconv_ErrRange), ("strconv.ErrSyntax", Rows.laid_strconv_ErrSyntax), ("switchback/list.names", Rows.laid_switchback_list_names)]
theorem chunks1 {α : Type} {f : α → Value} : ∀ (L : List α) (cs : List Value), cs.length = L.length → (∀ (i : Nat) (a : α), L[i]? = some a → cs[i]? = some (f a)) → cs = L.map f := by
  intro L cs hl h
  refine List.ext_getElem? fun i => ?_
  rw [List.getElem?_map]
  cases ha : L[i]? with
  | none =>
    have : L.length ≤ i := List.getElem?_eq_none_iff.1 ha
    rw [List.getElem?_eq_none (by omega)]; rfl
  | some a => exact h i a ha
theorem int_of_trod {w : World} {base : Nat} {sp : Nat → Bool} {held : Bool} {fuel : Nat} {c : Value} {n : Int} {p : List MemPlace} (h : DataW.trod (fun _ => ()) Tryz.prog w base sp held fuel 3 [c] = some ((.lit (.int .i64 n) : DataW Unit), p)) : c = .int .i64 n := by
  cases fuel with
  | zero => simp [DataW.trod] at h
  | succ fuel =>
    cases c <;> simp [DataW.trod, Tryz.underlying3] at h
    rename_i k' m
    obtain ⟨⟨rfl, _⟩, rfl, _⟩ := h
    rfl
theorem str_of_trod {w : World} {base : Nat} {sp : Nat → Bool} {held : Bool} {fuel : Nat} {c : Value} {n : List UInt8} {p : List MemPlace} (h : DataW.trod (fun _ => ()) Tryz.prog w base sp held fuel 9 [c] = some ((.lit (.string n) : DataW Unit), p)) : c = .string ⟨n.toArray⟩ := by
  cases fuel with
  | zero => simp [DataW.trod] at h
  | succ fuel =>
    cases c <;> simp [DataW.trod, Tryz.underlying9] at h
    rename_i m
    obtain ⟨_, rfl, _⟩ := h
    rfl
theorem var_block {W : World} {name : String} {g : Nat} {cs : Array Value} (hg : Tryz.prog.globalNamed name = some g) (hv : W.var? Tryz.prog name = some cs) : ∃ t fr, W.heap[g]? = some (.cells cs t fr) := by
  unfold World.var? at hv
  rw [hg] at hv
  simp only [Option.bind_some] at hv
  split at hv
  · rename_i cs' t fr hh
    cases hv
    exact ⟨t, fr, hh⟩
  · cases hv
theorem arr_of {α : Type} {W : World} {name : String} {g n : Nat} {t e : TypeId} {dl : α → DataW Unit} {f : α → Value} {L : List α} {rest : List (String × DataW Unit)} (hu : Tryz.prog.underlying t = some (.array n e)) (hc : Tryz.prog.cellsOf e = 1) (hct : Tryz.prog.cellsOf t = n)
    (hg : Tryz.prog.globalNamed name = some g) (hgt : (Tryz.prog.globals[g]?).map (·.type) = some t) (hn : L.length = n)
    (hdet : ∀ {base : Nat} {sp : Nat → Bool} {held : Bool} {fuel : Nat} {c : Value} {a : α} {p : List MemPlace}, DataW.trod (fun _ => ()) Tryz.prog W base sp held fuel e [c] = some (dl a, p) → c = f a)
    (h : laidMet Tryz.prog ((name, .agg (L.map dl)) :: rest) W) : ∃ t' fr, W.heap[g]? = some (.cells (L.map f).toArray t' fr) := by
  obtain ⟨ps, ⟨g', t', cs, fuel, p, q, hg', ht', hvar, hd, _, _⟩, _⟩ := h
  obtain rfl : g' = g := Option.some.inj (hg'.symm.trans hg)
  obtain rfl : t' = t := Option.some.inj (ht'.symm.trans hgt)
  obtain ⟨xs, m, _, hx, hl, hlen, hf⟩ := DataW.trod_array hu hd
  have hmap : L.map dl = xs.map (·.1) := by
    have := congrArg Prod.fst hx
    simpa using this
  have hcells : cs.toList = L.map f := by
    refine chunks1 _ _ (by rw [hl, hct, hn]) (fun i a ha => ?_)
    have hi : i < n := by
      have := (List.getElem?_eq_some_iff.1 ha).1
      omega
    have h1 := hf i hi
    rw [hc] at h1
    have h2 : (xs.map (·.1))[i]? = some (dl a) := by rw [← hmap, List.getElem?_map, ha]; rfl
    rw [List.getElem?_map] at h2
    obtain ⟨⟨y, py⟩, hy, hy2⟩ := Option.map_eq_some_iff.1 h2
    simp only at hy2
    subst hy2
    rw [hy] at h1
    have hlc : i < cs.toList.length := by rw [hl, hct]; exact hi
    rw [Nat.mul_one, List.drop_eq_getElem_cons hlc, List.take_succ_cons, List.take_zero] at h1
    rw [List.getElem?_eq_getElem hlc, hdet h1]
  obtain ⟨t2, fr, hh⟩ := var_block hg hvar
  exact ⟨t2, fr, by rw [hh, ← hcells]⟩
theorem iface_of {W : World} {name nm : String} {g : Nat} {t : TypeId} {ms : Array (String × TypeId)} {d : DataW Unit} {rest : List (String × DataW Unit)} (hu : Tryz.prog.underlying t = some (.interface ms))
    (hg : Tryz.prog.globalNamed name = some g) (hgt : (Tryz.prog.globals[g]?).map (·.type) = some t) (h : laidMet Tryz.prog ((name, .iface nm d) :: rest) W) : ∃ te pe, W.cell? ⟨g, 0, none⟩ = some (.iface te pe) := by
  obtain ⟨ps, ⟨g', t', cs, fuel, p, q, hg', ht', hvar, hd, _, _⟩, _⟩ := h
  obtain rfl : g' = g := Option.some.inj (hg'.symm.trans hg)
  obtain rfl : t' = t := Option.some.inj (ht'.symm.trans hgt)
  obtain ⟨t2, fr, hh⟩ := var_block hg hvar
  have hc : ∃ te pe r, cs.toList = .iface te pe :: r := by
    cases fuel with
    | zero => simp [DataW.trod] at hd
    | succ fuel =>
      cases hcs : cs.toList with
      | nil => rw [hcs] at hd; simp [DataW.trod, hu] at hd
      | cons c r =>
        rw [hcs] at hd
        cases r with
        | cons _ _ => simp [DataW.trod, hu] at hd
        | nil =>
          cases c <;> simp [DataW.trod, hu] at hd
          exact ⟨_, _, _, rfl⟩
  obtain ⟨te, pe, r, hc⟩ := hc
  refine ⟨te, pe, ?_⟩
  have e : cs = (.iface te pe :: r).toArray := by rw [← hc]
  rw [e] at hh
  simp [World.cell?, hh]
theorem pow_data : (Rows.laid_internal_strconv_uint64pow10 : DataW Unit) = Lib.tabData .u64 Lib.pow10Tab := by kernel_rfl
theorem forms_data : (Rows.laid_switchback_enc_forms : DataW Unit) = .agg (Enc.formL.map fun n => .lit (.int .i64 n)) := by kernel_rfl
theorem names_data : (Rows.laid_switchback_list_names : DataW Unit) = .agg (Lists.namesL.map fun n => .lit (.string n)) := by kernel_rfl
theorem laid_of {W : World} (hL0 : laidMetH Tryz.prog laidAll W) : Lists.LaidL W := by
  rw [MakeChecks.laidMetH_plain _ _ _ (by kernel_rfl)] at hL0
  unfold laidAll at hL0
  have h3 := hL0.tail.tail
  rw [pow_data] at h3
  have h4 := h3.tail
  rw [forms_data] at h4
  have h5 := h4.tail
  have h6 := h5.tail
  have h7 := h6.tail
  rw [names_data] at h7
  obtain ⟨te, pe, hr⟩ := iface_of Tryz.underlying62 (by kernel_rfl : Tryz.prog.globalNamed "strconv.ErrRange" = some 7) (by kernel_rfl : (Tryz.prog.globals[7]?).map (·.type) = some 62) h5
  obtain ⟨te2, pe2, hs⟩ := iface_of Tryz.underlying62 (by kernel_rfl : Tryz.prog.globalNamed "strconv.ErrSyntax" = some 6) (by kernel_rfl : (Tryz.prog.globals[6]?).map (·.type) = some 62) h6
  refine ⟨?_, ?_, ?_, ⟨te2, pe2, hs⟩, ⟨te, pe, hr⟩, ?_⟩
  · exact arr_of (f := fun n => Value.int .i64 n) (L := Enc.formL) Tryz.underlying160 (by kernel_rfl : Tryz.prog.cellsOf 3 = 1) (by kernel_rfl : Tryz.prog.cellsOf 160 = 49) (by kernel_rfl) (by kernel_rfl) (by kernel_rfl) (fun h => int_of_trod h) h4
  · exact arr_of (f := fun (s : List UInt8) => Value.string ⟨s.toArray⟩) (L := Lists.namesL) Tryz.underlying132 (by kernel_rfl : Tryz.prog.cellsOf 9 = 1) (by kernel_rfl : Tryz.prog.cellsOf 132 = 49) (by kernel_rfl) (by kernel_rfl) (by kernel_rfl) (fun h => str_of_trod h) h7
  · exact Lib.tabIs_of_head Lists.gPow (by kernel_rfl : (Tryz.prog.globals[2]?).map (·.type) = some 162) Tryz.underlying162 Tryz.underlying81 (by kernel_rfl) (by kernel_rfl) h3
  · have := World.block_lt_of_cell? W _ hr
    exact this
/-- A world for the witness. -/
noncomputable def laidWorld (os : Os) : World := World.laidAll Tryz.prog os laidAll
theorem laid_met (os : Os) (args : Array Value) : laidMetH Tryz.prog laidAll ((laidWorld os).forCall (fun _ _ => 0) ⟨#[], args, []⟩).memory := by
  rw [MakeChecks.laidMetH_plain _ _ _ (by kernel_rfl)]
  exact laidMet_laidAll _ (by kernel_rfl) (by kernel_rfl)
end Go.Proofs.YthojmbljlehpbaaGreatDoor
namespace Go.Proofs.YthojmbljlehpbaaGreatDoor.Relax
open Go.RowKit Go.ChangeShapes Go.Proofs.YthojmbljlehpbaaGreatDoor.Graph Go.Proofs.YthojmbljlehpbaaGreatDoor.Enc
section
variable {H : Type} {enc : TypeId × Value → H} {w : World} {base : Nat} {sp : Nat → Bool} {held : Bool} {fuel : Nat} {cs : List Value} {y : DataW H × List MemPlace}
theorem cells_lineS : Tryz.prog.cellsOf 22 = 1 := by kernel_rfl
theorem cells_line : Tryz.prog.cellsOf 52 = 7 := by kernel_rfl
theorem line_of {c0 c1 c2 c3 c4 c5 c6 : Value} (h : DataW.trod enc Tryz.prog w base sp held fuel 52 [c0, c1, c2, c3, c4, c5, c6] = some y) (hw : Wt 52 y.1) :
    ∃ (x : PL) (v : Value), c0 = .int .i64 x.op ∧ c1 = .int .i64 x.a ∧ c2 = .int .i64 x.b ∧ c3 = .int .i64 x.imm ∧ c4 = .int .u32 x.n ∧ c5 = .int .i64 x.label ∧ c6 = v ∧ IntsR w v x.list ∧ x.list.length * 8 ≤ reachBytes ∧ (0 ≤ x.n ∧ x.n ≤ 4294967295) := by
  obtain ⟨xs, n, _, rfl, _, hlen, hf⟩ := DataW.trod_struct Tryz.underlying52 h
  obtain ⟨y0, y1, y2, y3, y4, y5, y6, rfl⟩ : ∃ y0 y1 y2 y3 y4 y5 y6, xs = [y0, y1, y2, y3, y4, y5, y6] := by
    clear hw hf
    match xs, hlen with
    | [y0, y1, y2, y3, y4, y5, y6], _ => exact ⟨y0, y1, y2, y3, y4, y5, y6, rfl⟩
  have e0 : DataW.trod enc Tryz.prog w base sp held n 3 ((([c0, c1, c2, c3, c4, c5, c6] : List Value).drop 0).take (Tryz.prog.cellsOf 3)) = some y0 := hf 0 _ rfl
  rw [cells_i64] at e0
  have e1 : DataW.trod enc Tryz.prog w base sp held n 3 ((([c0, c1, c2, c3, c4, c5, c6] : List Value).drop 1).take (Tryz.prog.cellsOf 3)) = some y1 := hf 1 _ rfl
  rw [cells_i64] at e1
  have e2 : DataW.trod enc Tryz.prog w base sp held n 3 ((([c0, c1, c2, c3, c4, c5, c6] : List Value).drop 2).take (Tryz.prog.cellsOf 3)) = some y2 := hf 2 _ rfl
  rw [cells_i64] at e2
  have e3 : DataW.trod enc Tryz.prog w base sp held n 3 ((([c0, c1, c2, c3, c4, c5, c6] : List Value).drop 3).take (Tryz.prog.cellsOf 3)) = some y3 := hf 3 _ rfl
  rw [cells_i64] at e3
  have e4 : DataW.trod enc Tryz.prog w base sp held n 50 ((([c0, c1, c2, c3, c4, c5, c6] : List Value).drop 4).take (Tryz.prog.cellsOf 50)) = some y4 := hf 4 _ rfl
  rw [cells_u32] at e4
  have e5 : DataW.trod enc Tryz.prog w base sp held n 3 ((([c0, c1, c2, c3, c4, c5, c6] : List Value).drop 5).take (Tryz.prog.cellsOf 3)) = some y5 := hf 5 _ rfl
  rw [cells_i64] at e5
  have e6 : DataW.trod enc Tryz.prog w base sp held n 35 ((([c0, c1, c2, c3, c4, c5, c6] : List Value).drop 6).take (Tryz.prog.cellsOf 35)) = some y6 := hf 6 _ rfl
  rw [cells_ints] at e6
  have w6 : Wt 35 y6.1 := wt_part Tryz.underlying52 hw (j := 6) rfl rfl
  obtain ⟨x0, rfl⟩ := int_of (c := c0) e0
  obtain ⟨x1, rfl⟩ := int_of (c := c1) e1
  obtain ⟨x2, rfl⟩ := int_of (c := c2) e2
  obtain ⟨x3, rfl⟩ := int_of (c := c3) e3
  obtain ⟨x4, rfl, wn⟩ := u32_of (c := c4) e4
  obtain ⟨x5, rfl⟩ := int_of (c := c5) e5
  obtain ⟨v6, x6, hv6, hr6, hs6⟩ := ints_of (cs := [c6]) e6 w6
  injection hv6 with hv6 _
  subst hv6
  exact ⟨⟨x0, x1, x2, x3, x4, x5, x6⟩, _, rfl, rfl, rfl, rfl, rfl, rfl, rfl, hr6, hs6, wn⟩
theorem lines_of (h : DataW.trod enc Tryz.prog w base sp held fuel 22 cs = some y) (hw : Wt 22 y.1) : ∃ v l, cs = [v] ∧ LinesR w v l ∧ SmL l ∧ ∀ x ∈ l, 0 ≤ x.n ∧ x.n ≤ 4294967295 := by
  obtain ⟨v, n, rfl, hs, hby⟩ := open_sl Tryz.underlying22 cells_line (by kernel_rfl : Tryz.prog.bytesOf 52 = 72) (by decide) h hw
  rcases hs with ⟨rfl, p, c, rfl⟩ | ⟨b, o, c, rfl, h1, h2, h3, h4⟩
  · exact ⟨_, [], rfl, .inl ⟨rfl, p, c, rfl⟩, ⟨by simp, by simp⟩, by simp⟩
  · obtain ⟨l, hl, hr⟩ := choose_list (R := fun i (x : PL) => (∃ v, LineR w b (o + i * 7) x v) ∧ x.list.length * 8 ≤ reachBytes ∧ (0 ≤ x.n ∧ x.n ≤ 4294967295)) (n := n) (fun i hi => by
      obtain ⟨ecs, g1, g2, m, z, g3, gw⟩ := h4 i hi
      match ecs, g1 with
      | [c0, c1, c2, c3, c4, c5, c6], _ =>
        obtain ⟨x, v, rfl, rfl, rfl, rfl, rfl, rfl, rfl, hl, hsm, hn⟩ := line_of g3 gw
        exact ⟨x, ⟨_, (by first | (simp; done) | simpa using g2 0 (by omega)), (by first | (simp; done) | simpa using g2 1 (by omega)), (by first | (simp; done) | simpa using g2 2 (by omega)), (by first | (simp; done) | simpa using g2 3 (by omega)), (by first | (simp; done) | simpa using g2 4 (by omega)), (by first | (simp; done) | simpa using g2 5 (by omega)), (by first | (simp; done) | simpa using g2 6 (by omega)), hl⟩, hsm, hn⟩)
    exact ⟨_, l, rfl, .inr ⟨b, o, c, by rw [hl], by omega, by omega, h3, fun i _ x hx => (hr i x hx).1⟩, ⟨by rw [hl]; unfold reachBytes at hby; omega, fun x hx => by
      obtain ⟨i, hi⟩ := List.mem_iff_getElem?.1 hx
      have := (hr i x hi).2.1
      unfold reachBytes at this; omega⟩, fun x hx => by
      obtain ⟨i, hi⟩ := List.mem_iff_getElem?.1 hx
      exact (hr i x hi).2.2⟩
end
end Go.Proofs.YthojmbljlehpbaaGreatDoor.Relax
namespace Go.Proofs.YthojmbljlehpbaaGreatDoor.Lists
open Go.RowKit Go.ChangeShapes Go.WideShapes Go.ChangeAt Go.Proofs.YthojmbljlehpbaaGreatDoor.Relax Go.Proofs.YthojmbljlehpbaaGreatDoor.Graph
open Go.Proofs.YthojmbljlehpbaaGreatDoor.Enc hiding below_one bt ret_bool

theorem laidOut : laidOutB Tryz.prog = true := by kernel_rfl
theorem wt_at {H : Type} {ts : List TypeId} {ds : List (DataW H)} (h : (DataW.weightsEach Tryz.prog ts ds).all (· ≤ reachBytes) = true) {j : Nat} {t : TypeId} {d : DataW H} (ht : ts[j]? = some t) (hd : ds[j]? = some d) : Wt t d := fun n hn => by
  simpa using List.all_eq_true.1 h _ (DataW.weights_mem_each ht hd n hn)
section
variable {H : Type} {enc : TypeId × Value → H} {w : World} {base : Nat} {sp : Nat → Bool} {held : Bool}
set_option maxRecDepth 1000000 in
theorem lines_in {r : Reach} {b0 : Nat} {v : Value} {d : DataW H} {p : List MemPlace} (hv : Value.okWide Tryz.prog w r b0 22 v) (h : DataW.Trod enc Tryz.prog w base sp held 22 v d p) (hw : Wt 22 d) :
    ∃ l, LinesR w v l ∧ SmL l ∧ InL l := by
  obtain ⟨fuel, hf⟩ := h
  obtain ⟨v', l, hv', hl, hs, hn⟩ := lines_of hf hw
  obtain ⟨sp, sc, hsf⟩ := hl.form
  obtain ⟨ap, an, ac, rfl⟩ := okWide_slice Tryz.underlying22 hv
  obtain rfl : (Value.slice ap an ac) = v' := by simpa [Value.cells] using hv'
  exact ⟨l, hl, hs, ⟨hn, hs.2⟩⟩
end
end Go.Proofs.YthojmbljlehpbaaGreatDoor.Lists
