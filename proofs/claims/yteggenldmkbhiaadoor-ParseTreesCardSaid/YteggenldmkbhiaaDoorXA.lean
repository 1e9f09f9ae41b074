/- What the laws of the parser share: tokens, parse.Parse of tokens, live, copied. -/
import Derived.Test.YteggenldmkbhiaaDoorTG
import Derived.Test.YteggenldmkbhiaaDoorWH
import Derived.Test.YteggenldmkbhiaaDoorGC
import Derived.WalkSmall
namespace Go.Proofs.YteggenldmkbhiaaDoor
open Go.RowKit

theorem append_data (a b : ByteArray) : (a ++ b).data.toList = a.data.toList ++ b.data.toList := by
  rw [ByteArray.data_append, Array.toList_append]
theorem row_one (ts : List PTok) : ∀ u ∈ rowOf ts, u.oneCell' = true := by
  intro u hu
  unfold rowOf at hu
  obtain ⟨t, _, h⟩ := List.mem_flatMap.1 hu
  exact tok_one t u h

/-- The five cells of token k, as a walk asks for them. -/
theorem Toks.at_ {w : World} {B : Nat} {g cap n : Nat} {ts : List PTok} (h : Toks w B (.slice (some ⟨g, 0, none⟩) n cap) ts) {k : Nat} {t : PTok} (hk : ts[k]? = some t) :
    (w.cell? ⟨g, k * 5, none⟩ = some (.int .i64 t.1.kind) ∧ w.cell? ⟨g, k * 5 + 1, none⟩ = some (.int .i64 t.2) ∧ w.cell? ⟨g, k * 5 + 2, none⟩ = some (.string ⟨t.1.text.toArray⟩) ∧
      w.cell? ⟨g, k * 5 + 3, none⟩ = some (.int .u32 t.1.num) ∧ w.cell? ⟨g, k * 5 + 4, none⟩ = some (.bool t.1.uns)) ∧ g < w.heap.size := by
  rcases h with ⟨rfl, _⟩ | ⟨g', cap', h1, _, _, h5, _, h6⟩
  · simp at hk
  · injection h1 with h1 _ _
    injection h1 with h1
    injection h1 with h1
    subst h1
    exact ⟨h6 k t hk, h5⟩

set_option maxHeartbeats 1000000 in
theorem tokens_any (s : ByteArray) (w : World) : Calls Tryd.prog 8 #[.string s] w fun e w' =>
    ∃ v, e = .returned (.tuple #[v, .bool (decide ((lexAll s.data.toList).2.2 = 0))]) ∧ TokRow w' w.heap.size v (lexAll s.data.toList).1 ∧ Below w.heap.size w w' := by
  obtain ⟨R, hR⟩ : ∃ R, R = lexAll s.data.toList := ⟨_, rfl⟩
  have hl := rLex_any s w
  rw [← hR] at hl ⊢
  have b : (((R.2.2 : Nat) : Int) == 0) = decide (R.2.2 = 0) := by rw [Bool.eq_iff_iff]; simp
  have HL := Lib.hid hl
  clear hl hR
  go_enter Tryd.func8, Tryd.ntmps8
  go_wp2_with fail
  refine HL.out.mono ?_
  rintro e w1 ⟨v, rfl, hT, hb⟩
  have HT := Lib.hid hT
  have HB := Lib.hid hb
  clear hT hb
  go_wp2
  go_ret2
  exact ⟨v, rfl, HT.out, HB.out⟩

/-- parse.Parse of tokens with one end. -/
theorem parse_toks {w : World} {B : Nat} {v : Value} {ts : List PTok} (hT : Toks w B v ts) (ho : Parse.OpsAt w) (he : Parse.endsOnce (ts.map ptOf) = true) (hs : ∀ t ∈ ts, t.1.text.length ≤ 20000 ∧ t.1.num ≤ 4294967295) :
    Calls Tryd.prog 10 #[v] w fun e w' => Parse.ParseEnd w (Parse.parseAll (ts.map ptOf)) e w' := by
  have hlen : 0 < ts.length ∧ ts.length ≤ 4000 := by
    have := he
    simp only [Parse.endsOnce, Bool.and_eq_true, decide_eq_true_eq, List.length_map] at this
    exact this.1
  rcases hT with ⟨rfl, _⟩ | ⟨g, cap, rfl, _, hcap, hgl, hne, hc⟩
  · simp at hlen
  · have h := Parse.parse_take ⟨ts.map ptOf, 0, 0, g, cap⟩ w ⟨fun k hk => ?_, ho⟩ hgl (by simpa using hlen.2) (fun k => ?_) he
    · simpa [Parse.tokV] using h
    · simp only [List.length_map] at hk
      have hg := List.getElem?_eq_getElem hk
      rw [tokAt_lt hg]
      exact hc k _ hg
    · by_cases hk : k < ts.length
      · have hg := List.getElem?_eq_getElem hk
        rw [tokAt_lt hg]
        have := hs _ (List.getElem_mem hk)
        exact ⟨by show ts[k].1.text.length ≤ _; omega, this.2⟩
      · rw [tokAt_pt, List.getElem?_eq_none (by omega)]
        simp [Parse.noTok]

/-! How nodes are read -/
def KidsR (w : World) (kv : Value) (ks : List Nat) : Prop :=
  (ks = [] ∧ ∃ p c, kv = .slice p 0 c) ∨ ∃ g cap, kv = .slice (some ⟨g, 0, none⟩) ks.length cap ∧ (ks.length ≤ cap ∧ cap ≤ 9223372036854775807) ∧ g < w.heap.size ∧ ks ≠ [] ∧ ∀ (j k : Nat), ks[j]? = some k → w.cell? ⟨g, j, none⟩ = some (.int .i64 k)
theorem kids_r {w : World} {B : Nat} {kv : Value} {ks : List Nat} (h : Parse.KidsAt w B kv ks) : KidsR w kv ks := by
  cases ks with
  | nil =>
    left
    refine ⟨rfl, ?_⟩
    rcases h.2 with ⟨h1, _⟩ | ⟨g, cap, cur, h1, h2, h3, h4, h5, h6, h7⟩
    · exact ⟨none, 0, h1⟩
    · exact ⟨_, _, h1⟩
  | cons x ks =>
    right
    rcases h.2 with ⟨_, h1⟩ | ⟨g, cap, cur, rfl, h2, h3, h4, h5, h6, h7⟩
    · simp at h1
    · refine ⟨g, cap, rfl, ⟨h4, h5⟩, (Array.getElem?_eq_some_iff.1 h3).1, by simp, ?_⟩
      intro j k hk
      have hlt : j < (x :: ks).length := (List.getElem?_eq_some_iff.1 hk).1
      exact (World.ownsRow.cellAt h j (by omega)).trans (by rw [List.getElem?_map, hk]; rfl)
def NodeR (w : World) (g i : Nat) (n : Parse.PN) (kv : Value) : Prop :=
  w.cell? ⟨g, i * 8, none⟩ = some (.int .i64 n.kind) ∧ w.cell? ⟨g, i * 8 + 1, none⟩ = some (.int .i64 n.place) ∧ w.cell? ⟨g, i * 8 + 2, none⟩ = some (.int .i64 n.op) ∧ w.cell? ⟨g, i * 8 + 3, none⟩ = some (.int .i64 n.type) ∧
    w.cell? ⟨g, i * 8 + 4, none⟩ = some (.int .i64 n.num) ∧ w.cell? ⟨g, i * 8 + 5, none⟩ = some (.int .i64 0) ∧ w.cell? ⟨g, i * 8 + 6, none⟩ = some (.string ⟨n.name.toArray⟩) ∧ w.cell? ⟨g, i * 8 + 7, none⟩ = some kv
def NodesR (w : World) (v : Value) (ns : List Parse.PN) : Prop :=
  (ns = [] ∧ ∃ p c, v = .slice p 0 c) ∨ ∃ g cap, v = .slice (some ⟨g, 0, none⟩) ns.length cap ∧ (ns.length ≤ cap ∧ cap ≤ 9223372036854775807) ∧ g < w.heap.size ∧ ns ≠ [] ∧
    ∀ (i : Nat) (n : Parse.PN), ns[i]? = some n → ∃ kv, NodeR w g i n kv ∧ KidsR w kv n.kids
theorem rowN_at : ∀ (ns : List Parse.PN) (kvs : List Value) (i : Nat) (n : Parse.PN) (kv : Value), ns[i]? = some n → kvs[i]? = some kv → ∀ j, j < 8 → (Parse.rowN ns kvs)[i * 8 + j]? = (Parse.cellsN n kv)[j]? := by
  intro ns
  induction ns with
  | nil => intro kvs i n kv h; simp at h
  | cons x ns ih =>
    intro kvs i n kv hn hk j hj
    cases kvs with
    | nil => simp at hk
    | cons y kvs =>
      have hx : (Parse.cellsN x y).length = 8 := rfl
      have hr : Parse.rowN (x :: ns) (y :: kvs) = Parse.cellsN x y ++ Parse.rowN ns kvs := by simp [Parse.rowN]
      rw [hr]
      cases i with
      | zero =>
        simp at hn hk; subst hn hk
        rw [List.getElem?_append_left (by omega)]
        simp
      | succ i =>
        rw [List.getElem?_append_right (by omega), hx, show (i + 1) * 8 + j - 8 = i * 8 + j by omega]
        exact ih kvs i n kv (by simpa using hn) (by simpa using hk) j hj
theorem nodes_r {w : World} {B : Nat} {X : Nat → Prop} {v : Value} {ns : List Parse.PN} (h : Parse.NodesAt w B X v ns) : NodesR w v ns := by
  obtain ⟨kvs, hl, hrow, hk⟩ := h
  cases hns : ns with
  | nil =>
    left
    subst hns
    refine ⟨rfl, ?_⟩
    rcases hrow.2 with ⟨h1, _⟩ | ⟨g, cap, cur, h1, _⟩
    · exact ⟨none, 0, h1⟩
    · exact ⟨_, _, h1⟩
  | cons x t =>
    right
    rw [← hns]
    rcases hrow.2 with ⟨_, h1⟩ | ⟨g, cap, cur, rfl, h2, h3, h4, h5, h6, h7⟩
    · rw [hns] at h1; simp at h1
    · refine ⟨g, cap, rfl, ⟨h4, h5⟩, (Array.getElem?_eq_some_iff.1 h3).1, by rw [hns]; simp, ?_⟩
      intro i n hn
      have hlt : i < ns.length := (List.getElem?_eq_some_iff.1 hn).1
      obtain ⟨kv, hkv⟩ : ∃ kv, kvs[i]? = some kv := ⟨_, List.getElem?_eq_getElem (by omega)⟩
      have hc := fun j (hj : j < 8) => (World.ownsRow.cellAt hrow (i * 8 + j) (by omega)).trans (rowN_at ns kvs i n kv hn hkv j hj)
      exact ⟨kv, ⟨hc 0 (by omega), hc 1 (by omega), hc 2 (by omega), hc 3 (by omega), hc 4 (by omega), hc 5 (by omega), hc 6 (by omega), hc 7 (by omega)⟩, kids_r (hk i n kv hn hkv).1⟩
theorem KidsR.below {w w' : World} {kv : Value} {ks : List Nat} (h : KidsR w kv ks) (hb : Below w.heap.size w w') : KidsR w' kv ks := by
  rcases h with h | ⟨g, cap, h1, h3, h4, h5, h6⟩
  · exact .inl h
  · exact .inr ⟨g, cap, h1, h3, Nat.lt_of_lt_of_le h4 hb.size, h5, fun j k hk => (hb.cell (p := ⟨g, j, none⟩) h4).trans (h6 j k hk)⟩
theorem NodesR.below {w w' : World} {v : Value} {ns : List Parse.PN} (h : NodesR w v ns) (hb : Below w.heap.size w w') : NodesR w' v ns := by
  rcases h with h | ⟨g, cap, h1, h3, h4, h5, h6⟩
  · exact .inl h
  · refine .inr ⟨g, cap, h1, h3, Nat.lt_of_lt_of_le h4 hb.size, h5, fun i n hn => ?_⟩
    obtain ⟨kv, ⟨a, b, c, d, e, f, k, l⟩, hk⟩ := h6 i n hn
    have hq : ∀ j, w'.cell? ⟨g, j, none⟩ = w.cell? ⟨g, j, none⟩ := fun j => hb.cell (p := ⟨g, j, none⟩) h4
    exact ⟨kv, ⟨(hq _).trans a, (hq _).trans b, (hq _).trans c, (hq _).trans d, (hq _).trans e, (hq _).trans f, (hq _).trans k, (hq _).trans l⟩, hk.below hb⟩
theorem NodesR.form {w : World} {v : Value} {ns : List Parse.PN} (h : NodesR w v ns) : ∃ p c, v = .slice p ns.length c := by
  rcases h with ⟨rfl, p, c, rfl⟩ | ⟨g, cap, rfl, _⟩
  · exact ⟨p, c, rfl⟩
  · exact ⟨_, _, rfl⟩
theorem KidsR.form {w : World} {kv : Value} {ks : List Nat} (h : KidsR w kv ks) : ∃ p c, kv = .slice p ks.length c := by
  rcases h with ⟨rfl, p, c, rfl⟩ | ⟨g, cap, rfl, _⟩
  · exact ⟨p, c, rfl⟩
  · exact ⟨_, _, rfl⟩
theorem OpsAt.below {w w' : World} (h : Parse.OpsAt w) (hb : Below w.heap.size w w') : Parse.OpsAt w' := by
  obtain ⟨t, fr, h0⟩ := h
  exact ⟨t, fr, (hb.block 0 (lt_of_block h0)).trans h0⟩

theorem exLive : lexAll [105, 110, 116, 32, 120, 59] = ([(⟨3, [105, 110, 116], 0, false⟩, 0), (⟨1, [120], 0, false⟩, 4), (⟨4, [59], 0, false⟩, 5), (⟨0, [], 0, false⟩, 6)], 0, 0) := by decide +kernel
def liveL : List PTok := [(⟨3, [105, 110, 116], 0, false⟩, 0), (⟨1, [120], 0, false⟩, 4), (⟨4, [59], 0, false⟩, 5), (⟨0, [], 0, false⟩, 6)]
theorem exLive2 : Parse.parseAll (liveL.map ptOf) = ([⟨36, 4, 0, 1, 0, [120], []⟩, ⟨35, 0, 0, 0, 0, [], [0]⟩, ⟨40, 0, 0, 0, 0, [], [1]⟩], 0, 0) := by decide +kernel

set_option maxHeartbeats 2000000 in
set_option maxRecDepth 100000 in
theorem live_any (w : World) (ho : Parse.OpsAt w) : Calls Tryd.prog 9 #[] w fun e w' => e = .returned (.bool true) ∧ Below w.heap.size w w' := by
  have hL := tokens_any ⟨#[105, 110, 116, 32, 120, 59]⟩
  rw [show (⟨#[105, 110, 116, 32, 120, 59]⟩ : ByteArray).data.toList = [105, 110, 116, 32, 120, 59] from rfl, exLive] at hL
  have HL := Lib.hid hL
  have HO := Lib.hid ho
  clear hL ho
  go_enter Tryd.func9, Tryd.ntmps9
  go_wp2_with fail
  refine (HL.out _).mono ?_
  rintro e w1 ⟨v, rfl, hT, hb⟩
  have hp := parse_toks (ts := liveL) (TokRow.toks hT) (OpsAt.below HO.out hb) (by decide +kernel) (by decide)
  rw [exLive2] at hp
  have HP := Lib.hid hp
  have HB := Lib.hid hb
  obtain ⟨ga, ca, hv, _⟩ : ∃ ao cv, v = .slice ao 4 cv ∧ True := by obtain ⟨a, c, h⟩ := tok_form hT; exact ⟨a, c, h, trivial⟩
  subst hv
  clear hp hb hT
  go_wp2_with fail
  refine HP.out.mono ?_
  rintro e w2 ⟨nv, rfl, hN, hb2⟩
  have hR := nodes_r hN
  rcases hR with ⟨h, _⟩ | ⟨g, cap, rfl, hcap, hgl, _, hc⟩
  · simp at h
  · obtain ⟨k0, ⟨c00, c01, _⟩, _⟩ := hc 0 _ rfl
    obtain ⟨k2, ⟨c20, _⟩, _⟩ := hc 2 _ rfl
    have HB2 := Lib.hid (HB.out.trans (hb2.mono HB.out.size))
    clear hc hN hb2
    simp only [Nat.reduceMul, Nat.zero_mul, Nat.zero_add] at c00 c01 c20
    go_wp2
    go_ret
    exact ⟨rfl, HB2.out.alloc HB2.out.size _⟩
end Go.Proofs.YteggenldmkbhiaaDoor
namespace Go.Proofs.YteggenldmkbhiaaDoor
open Go.RowKit

theorem drewN_heap (w : World) (m : Nat) : (w.drewN m).heap = w.heap := rfl
theorem below_drewN (w : World) (m : Nat) : Below w.heap.size w (w.drewN m) := ⟨rfl, rfl, rfl, Nat.le_refl _, fun _ _ => rfl⟩
set_option maxHeartbeats 4000000 in
set_option maxRecDepth 100000 in
theorem ints_q (ks : List Nat) (va vb : Value) (w : World) (ha : KidsR w va ks) (hb : KidsR w vb ks) :
    Calls Tryd.prog 15 #[va, vb] w fun e w' => e = .returned (.bool true) ∧ ∃ m, w' = w.drewN m := by
  rcases ha with ⟨rfl, p, c, rfl⟩ | ⟨g, cap, rfl, hcap, hgl, hne, hc⟩
  · rcases hb with ⟨_, p', c', rfl⟩ | ⟨_, _, _, _, _, hne, _⟩
    · go_enter Tryd.func15, Tryd.ntmps15
      go_wp2
      go_loop [5] (fun i => i = .int .i64 0) (fun _ => 0)
      case atStart => rfl
      case round =>
        subst hrel
        go_wp2
        go_ret
        exact ⟨rfl, 0, rfl⟩
    · exact absurd rfl hne
  · rcases hb with ⟨h, _⟩ | ⟨g', cap', rfl, hcap', hgl', _, hcb⟩
    · exact absurd h hne
    · have HA := Lib.hid hc
      have HB := Lib.hid hcb
      obtain ⟨n, hN⟩ : ∃ n, n = ks.length := ⟨_, rfl⟩
      rw [← hN] at hcap hcap' ⊢
      have HN := Lib.hid hN
      obtain ⟨m1, m2⟩ := hcap
      obtain ⟨m3, m4⟩ := hcap'
      have m5 : n ≤ 9223372036854775807 := by omega
      clear hc hcb hne hN m2 m4
      go_enter Tryd.func15, Tryd.ntmps15
      go_wp2
      go_loopw [5] (fun i wr => ∃ k q : Nat, k ≤ n ∧ i = .int .i64 k ∧ wr = w.drewN q) (fun i _ => n - (intOf i).toNat)
      case atStart => exact ⟨0, 0, Nat.zero_le _, rfl, rfl⟩
      case round =>
        obtain ⟨k, q, hk, rfl, rfl⟩ := hrel
        by_cases hlt : k < n
        · obtain ⟨t, ht⟩ : ∃ t, ks[k]? = some t := ⟨_, List.getElem?_eq_getElem (by rw [← HN.out]; exact hlt)⟩
          have c0 : (w.drewN q).cell? ⟨g, k, none⟩ = some (.int .i64 t) := HA.out k t ht
          have c1 : (w.drewN q).cell? ⟨g', k, none⟩ = some (.int .i64 t) := HB.out k t ht
          have i0 : (0 : Int) ≤ k := by omega
          have i1 : (k : Int) < n := by omega
          have i2 : (n : Int) ≤ 9223372036854775807 := by omega
          have e0 : ((t : Int) != (t : Int)) = false := by simp
          clear ht
          obtain ⟨wq, hwq⟩ : ∃ x, x = w.drewN q := ⟨_, rfl⟩
          rw [← hwq] at c0 c1 ⊢
          have HWQ := Lib.hid hwq
          clear hwq
          go_wp2
          go_quiet (fail)
          go_wp2
          exact ⟨⟨k + 1, q + nq, by omega, by go_num, by rw [HWQ.out, World.drewN_drewN]⟩, by simp [intOf]; omega⟩
        · obtain rfl : k = n := by omega
          go_wp2
          go_ret
          exact ⟨rfl, q, rfl⟩
theorem ints_any (ks : List Nat) (va vb : Value) (w : World) (ha : KidsR w va ks) (hb : KidsR w vb ks) :
    Calls Tryd.prog 15 #[va, vb] w fun e w' => e = .returned (.bool true) ∧ Below w.heap.size w w' :=
  (ints_q ks va vb w ha hb).mono fun _ _ ⟨he, m, hm⟩ => ⟨he, by rw [hm]; exact below_drewN w m⟩
theorem bare_below {w : World} (o : Obj) (u : Value) : Below w.heap.size w ((w.alloc o).setCell ⟨w.heap.size, 0, none⟩ u) := ((Below.refl _ _).alloc (Nat.le_refl _) _).setCell (Nat.le_refl _) _

def okT (t : PTok) : Bool := !(decide (t.1.kind = 4) && (decide (t.1.text = [59]) || decide (t.1.text = [123]) || decide (t.1.text = [125])))
def PlainEnd (ts : List PTok) (w : World) (e : Ending) (w' : World) : Prop := ∃ b, e = .returned (.bool b) ∧ (b = true → ∀ t ∈ ts, okT t = true) ∧ Below w.heap.size w w'
theorem okT_kind {t : PTok} (h : ¬ ((t.1.kind : Int) = 4)) : okT t = true := by
  have : ¬ t.1.kind = 4 := by omega
  simp [okT, this]
theorem okT_text {t : PTok} (h1 : ¬ t.1.text = [59]) (h2 : ¬ t.1.text = [123]) (h3 : ¬ t.1.text = [125]) : okT t = true := by simp [okT, h1, h2, h3]
set_option maxHeartbeats 4000000 in
set_option maxRecDepth 100000 in
theorem plain_any (ts : List PTok) (v : Value) (B : Nat) (w : World) (ha : Toks w B v ts) (hn : ts.length ≤ 4000) :
    Calls Tryd.prog 11 #[v] w (PlainEnd ts w) := by
  rcases ha with ⟨rfl, ao, cv, rfl⟩ | ⟨g, cap, rfl, _, hcap, hgl, hne, hc⟩
  · go_enter Tryd.func11, Tryd.ntmps11
    go_wp2
    go_loop [3] (fun i => i = .int .i64 0) (fun _ => 0)
    case atStart => rfl
    case round =>
      subst hrel
      go_wp2
      go_ret
      exact ⟨true, rfl, fun _ t h => by simp at h, Below.refl _ _⟩
  · obtain ⟨n, hN⟩ : ∃ n, n = ts.length := ⟨_, rfl⟩
    rw [← hN] at hn hcap
    rw [← hN]
    have HN := Lib.hid hN
    have HC := Lib.hid hc
    clear hN hc hne
    go_enter Tryd.func11, Tryd.ntmps11
    go_wp2
    go_loopw [3] (fun i wr => ∃ k : Nat, k ≤ n ∧ i = .int .i64 k ∧ Hid (∀ (j : Nat) (t : PTok), j < k → ts[j]? = some t → okT t = true) ∧ Below w.heap.size w wr) (fun i _ => n - (intOf i).toNat)
    case atStart => exact ⟨0, Nat.zero_le _, rfl, Lib.hid (fun j t h => by omega), Below.refl _ _⟩
    case round =>
      obtain ⟨k, hk, rfl, HG, hbw⟩ := hrel
      by_cases hlt : k < n
      · obtain ⟨t, ht⟩ : ∃ t, ts[k]? = some t := ⟨_, List.getElem?_eq_getElem (by rw [← HN.out]; exact hlt)⟩
        obtain ⟨t0, t1, t2, t3, t4⟩ := HC.out k t ht
        have c0 := (hbw.cell (p := ⟨g, k * 5, none⟩) hgl).trans t0
        have c2 := (hbw.cell (p := ⟨g, k * 5 + 2, none⟩) hgl).trans t2
        have l0 : g < wr.heap.size := Nat.lt_of_lt_of_le hgl hbw.size
        have i0 : (0 : Int) ≤ k := by omega
        have i1 : (k : Int) < n := by omega
        have i2 : (n : Int) ≤ 4000 := by omega
        have HG2 : Hid (okT t = true → ∀ (j : Nat) (u : PTok), j < k + 1 → ts[j]? = some u → okT u = true) := Lib.hid (fun ho j u hj hu => by
          rcases Nat.lt_or_ge j k with h1 | h1
          · exact HG.out j u h1 hu
          · obtain rfl : j = k := by omega
            rw [ht] at hu; cases hu; exact ho)
        have HBW := Lib.hid hbw
        clear t0 t1 t2 t3 t4 hbw ht
        go_wp2
        all_goals first
          | (go_ret; exact ⟨false, rfl, fun h => by simp at h, HBW.out⟩)
          | (have hok : okT t = true := by
               by_cases q : (t.1.kind : Int) = 4
               · exact okT_text (by first | assumption | (simp_all; done)) (by first | assumption | (simp_all; done)) (by first | assumption | (simp_all; done))
               · exact okT_kind q
             have HG3 := Lib.hid (HG2.out hok)
             go_roundw
             case rel => exact ⟨k + 1, by omega, by go_num, HG3, HBW.out⟩
             case measure => simp [intOf]; omega)
      · obtain rfl : k = n := by omega
        have HBW := Lib.hid hbw
        clear hbw
        go_wp2
        go_ret
        refine ⟨true, rfl, fun _ t ht => ?_, HBW.out⟩
        obtain ⟨j, hj, rfl⟩ := List.getElem_of_mem ht
        exact HG.out j _ (by rw [HN.out]; exact hj) (List.getElem?_eq_getElem hj)

theorem cls_range (t : Tok) : -1 ≤ cls t ∧ cls t ≤ 1 := by unfold cls; split <;> (try split) <;> omega
theorem bra_range : ∀ (us : List Tok) (k : Nat), -(k : Int) ≤ bra us k ∧ bra us k ≤ k := by
  intro us
  induction us with
  | nil => intro k; cases k <;> simp [bra] <;> omega
  | cons t us ih =>
    intro k
    cases k with
    | zero => simp [bra]
    | succ k => have := ih k; have := cls_range t; simp only [bra]; omega
theorem bra_zero (us : List Tok) : bra us 0 = 0 := by cases us <;> rfl
theorem cls_open {t : Tok} (h : (t.kind : Int) = 4) (h1 : t.text = [123]) : cls t = 1 := by unfold cls; rw [if_pos ⟨by omega, h1⟩]
theorem cls_shut {t : Tok} (h : (t.kind : Int) = 4) (h1 : t.text = [125]) : cls t = -1 := by
  unfold cls; rw [if_neg (by rw [h1]; intro h; exact absurd h.2 (by decide)), if_pos ⟨by omega, h1⟩]
theorem cls_kind {t : Tok} (h : ¬ ((t.kind : Int) = 4)) : cls t = 0 := by unfold cls; rw [if_neg (fun x => h (by omega)), if_neg (fun x => h (by omega))]
theorem cls_text {t : Tok} (h : ¬ t.text = [123]) (h1 : ¬ t.text = [125]) : cls t = 0 := by unfold cls; rw [if_neg (fun x => h x.2), if_neg (fun x => h1 x.2)]
def ClosedEnd (ts : List PTok) (w : World) (e : Ending) (w' : World) : Prop := ∃ b, e = .returned (.bool b) ∧ (b = true → ∀ k, k ≤ ts.length → 0 ≤ bra (ts.map (·.1)) k) ∧ Below w.heap.size w w'
set_option maxHeartbeats 4000000 in
set_option maxRecDepth 100000 in
theorem closed_any (ts : List PTok) (v : Value) (B : Nat) (w : World) (ha : Toks w B v ts) (hn : ts.length ≤ 4000) :
    Calls Tryd.prog 14 #[v] w (ClosedEnd ts w) := by
  rcases ha with ⟨rfl, ao, cv, rfl⟩ | ⟨g, cap, rfl, _, hcap, hgl, hne, hc⟩
  · go_enter Tryd.func14, Tryd.ntmps14
    go_wp2
    go_loop [3, 4] (fun n i => n = .int .i64 0 ∧ i = .int .i64 0) (fun _ _ => 0)
    case atStart => exact ⟨rfl, rfl⟩
    case round =>
      obtain ⟨rfl, rfl⟩ := hrel
      go_wp2
      go_ret
      exact ⟨true, rfl, fun _ k h => by simp at h; subst h; rw [bra_zero]; exact Int.le_refl _, Below.refl _ _⟩
  · obtain ⟨n, hN⟩ : ∃ n, n = ts.length := ⟨_, rfl⟩
    rw [← hN] at hn hcap
    rw [← hN]
    have HN := Lib.hid hN
    have HC := Lib.hid hc
    clear hN hc hne
    go_enter Tryd.func14, Tryd.ntmps14
    go_wp2
    go_loopw [3, 4] (fun d i wr => ∃ (k : Nat) (m : Int), k ≤ n ∧ d = .int .i64 m ∧ i = .int .i64 k ∧ 0 ≤ m ∧ m ≤ k ∧ Hid (m = bra (ts.map (·.1)) k) ∧ Hid (∀ j, j ≤ k → 0 ≤ bra (ts.map (·.1)) j) ∧ Below w.heap.size w wr) (fun _ i _ => n - (intOf i).toNat)
    case atStart => exact ⟨0, 0, Nat.zero_le _, rfl, rfl, by omega, by omega, Lib.hid (bra_zero _).symm, Lib.hid (fun j h => by rw [show j = 0 by omega, bra_zero]; exact Int.le_refl _), Below.refl _ _⟩
    case round =>
      obtain ⟨k, m, hk, rfl, rfl, hm0, hmk, HM, HG, hbw⟩ := hrel
      by_cases hlt : k < n
      · obtain ⟨t, ht⟩ : ∃ t, ts[k]? = some t := ⟨_, List.getElem?_eq_getElem (by rw [← HN.out]; exact hlt)⟩
        obtain ⟨t0, t1, t2, t3, t4⟩ := HC.out k t ht
        have c0 := (hbw.cell (p := ⟨g, k * 5, none⟩) hgl).trans t0
        have c2 := (hbw.cell (p := ⟨g, k * 5 + 2, none⟩) hgl).trans t2
        have l0 : g < wr.heap.size := Nat.lt_of_lt_of_le hgl hbw.size
        have i0 : (0 : Int) ≤ k := by omega
        have i1 : (k : Int) < n := by omega
        have i2 : (n : Int) ≤ 4000 := by omega
        have hstep := bra_succ (ts.map (·.1)) k t.1 (by rw [List.getElem?_map, ht]; rfl)
        have HS := Lib.hid hstep
        have HBW := Lib.hid hbw
        clear t0 t1 t2 t3 t4 hbw ht hstep
        go_wp2
        all_goals first
          | (go_ret; exact ⟨false, rfl, fun h => by simp at h, HBW.out⟩)
          | (exfalso
             have h1 : t.1.text = [123] := by first | assumption | (simp_all; done)
             have h2 : t.1.text = [125] := by first | assumption | (simp_all; done)
             rw [h1] at h2; exact absurd h2 (by decide))
          | (have hcl : cls t.1 = 1 := cls_open (by first | assumption | (simp_all; done)) (by first | assumption | (simp_all; done))
             go_roundw
             case rel => exact ⟨k + 1, m + 1, by omega, by go_num, by go_num, by omega, by omega, Lib.hid (by rw [HS.out, hcl, HM.out]), Lib.hid (fun j hj => by
               rcases Nat.lt_or_ge j (k + 1) with h1 | h1
               · exact HG.out j (by omega)
               · obtain rfl : j = k + 1 := by omega
                 rw [HS.out, hcl, ← HM.out]; omega), HBW.out⟩
             case measure => simp [intOf]; omega)
          | (have hcl : cls t.1 = -1 := cls_shut (by first | assumption | (simp_all; done)) (by first | assumption | (simp_all; done))
             go_roundw
             case rel => exact ⟨k + 1, m - 1, by omega, by go_num, by go_num, by omega, by omega, Lib.hid (by rw [HS.out, hcl, HM.out]; omega), Lib.hid (fun j hj => by
               rcases Nat.lt_or_ge j (k + 1) with h1 | h1
               · exact HG.out j (by omega)
               · obtain rfl : j = k + 1 := by omega
                 rw [HS.out, hcl, ← HM.out]; omega), HBW.out⟩
             case measure => simp [intOf]; omega)
          | (have hcl : cls t.1 = 0 := by
               by_cases q : (t.1.kind : Int) = 4
               · exact cls_text (by first | assumption | (simp_all; done)) (by first | assumption | (simp_all; done))
               · exact cls_kind q
             go_roundw
             case rel => exact ⟨k + 1, m, by omega, by go_num, by go_num, by omega, by omega, Lib.hid (by rw [HS.out, hcl, HM.out]; omega), Lib.hid (fun j hj => by
               rcases Nat.lt_or_ge j (k + 1) with h1 | h1
               · exact HG.out j (by omega)
               · obtain rfl : j = k + 1 := by omega
                 rw [HS.out, hcl, ← HM.out]; omega), HBW.out⟩
             case measure => simp [intOf]; omega)
      · obtain rfl : k = n := by omega
        have HBW := Lib.hid hbw
        clear hbw
        go_wp2
        all_goals go_ret
        all_goals exact ⟨_, rfl, fun _ j hj => HG.out j (by rw [HN.out]; exact hj), HBW.out⟩
end Go.Proofs.YteggenldmkbhiaaDoor
