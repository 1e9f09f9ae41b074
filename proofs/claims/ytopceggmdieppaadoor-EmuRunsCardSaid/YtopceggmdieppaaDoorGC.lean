/- The law's live of layer emu. -/
import Derived.Test.YtopceggmdieppaaDoorGB
import Derived.Lib.Strings
import Derived.Deep.DeepAppendWide
import Derived.Deep.OwnRows
import Derived.IntWalk
import Derived.Deep.DeepCutAuto
namespace Go.Proofs.YtopceggmdieppaaDoor.Emu
open Go.RowKit Go.Proofs.YtopceggmdieppaaDoor.Enc Go.Proofs.YtopceggmdieppaaDoor.Graph
theorem cell_of_block {w : World} {b : Nat} {cs : Array Value} {t : TypeId} (h : w.heap[b]? = some (.cells cs t (0, 0))) {k : Nat} {v : Value} (hk : cs[k]? = some v) : w.cell? ⟨b, k, none⟩ = some v := by
  simp [World.cell?, h, hk]
theorem live_img (w : World) (o : Obj) (t1 t2 : TypeId) :
    ImgR (((w.alloc (.cells #[.int .u32 17825799, .int .u32 789577728] t1)).alloc (.cells #[.int .i64 1, .int .i64 1] t2)).alloc o) liveI (.slice (some ⟨w.heap.size, 0, none⟩) 2 2) (.slice (some ⟨w.heap.size + 1, 0, none⟩) 2 2) (.slice none 0 0) := by
  have b1 : (w.alloc (.cells #[.int .u32 17825799, .int .u32 789577728] t1)).heap[w.heap.size]? = some (.cells #[.int .u32 17825799, .int .u32 789577728] t1 (0, 0)) := heap_alloc_new w _
  have b2 : ((w.alloc (.cells #[.int .u32 17825799, .int .u32 789577728] t1)).alloc (.cells #[.int .i64 1, .int .i64 1] t2)).heap[w.heap.size + 1]? = some (.cells #[.int .i64 1, .int .i64 1] t2 (0, 0)) := by
    have := heap_alloc_new (w.alloc (.cells #[.int .u32 17825799, .int .u32 789577728] t1)) (.cells #[.int .i64 1, .int .i64 1] t2); rwa [World.size_alloc] at this
  have b2' := (Below.heap_alloc _ o _ (lt_of_block b2)).trans b2
  have b1' := (Below.heap_alloc _ o _ (by have := lt_of_block b1; simp <;> omega)).trans ((Below.heap_alloc _ (.cells #[.int .i64 1, .int .i64 1] t2) _ (lt_of_block b1)).trans b1)
  refine ⟨.inr ⟨w.heap.size, 0, 2, rfl, by decide, ⟨by decide, by decide⟩, by simp <;> omega, fun i hi x hx => ?_⟩, .inr ⟨w.heap.size + 1, 0, 2, rfl, by decide, ⟨by decide, by decide⟩, by simp <;> omega, fun i hi x hx => ?_⟩, .inl ⟨rfl, none, 0, rfl⟩⟩
  · have h2 : i = 0 ∨ i = 1 := by have : liveI.words.length = 2 := rfl; omega
    rcases h2 with rfl | rfl <;> (injection hx with hx; subst hx; exact cell_of_block b1' rfl)
  · have h2 : i = 0 ∨ i = 1 := by have : liveI.kinds.length = 2 := rfl; omega
    rcases h2 with rfl | rfl <;> (injection hx with hx; subst hx; exact cell_of_block b2' rfl)
theorem live_sm : SmI liveI := ⟨fun x hx => by simp [liveI] at hx; rcases hx with rfl | rfl <;> decide, fun x hx => by simp [liveI] at hx, by decide, by decide, by decide, by decide⟩
set_option maxHeartbeats 4000000 in
set_option maxRecDepth 100000 in
theorem live_any {ar : Int → Int → Int → Option Int} {hs : Int → Int → Int → Bool} (D : DoesRun ar hs) (w : World) (hF : FormsAt w) : Calls Tryd.prog 22 #[] w (Is (.bool true) w) := by
  have HA := Lib.hid (fun (w : World) (hF' : FormsAt w) h => D.at_ (live_run ar hs) (vw := .slice (some ⟨w.heap.size, 0, none⟩) 2 2) (vk := .slice (some ⟨w.heap.size + 1, 0, none⟩) 2 2) (vd := .slice none 0 0) (((w.alloc (.cells #[.int .u32 17825799, .int .u32 789577728] 37)).alloc (.cells #[.int .i64 1, .int .i64 1] 3)).alloc
    (.cells #[.slice (some ⟨w.heap.size, 0, none⟩) 2 2, .slice (some ⟨w.heap.size + 1, 0, none⟩) 2 2, .slice none 0 0, .int .i64 0] 48)) h live_sm (by unfold inR; decide) (((hF'.alloc _).alloc _).alloc _))
  clear D
  unfold liveI at HA
  simp only at HA
  go_enter Tryd.func22, Tryd.ntmps22
  go_wp2_with (
    (go_at_call 20; refine (HA.out _ hF (live_img _ _ _ _)).mono ?_; rintro e w2 ⟨rfl, hb⟩; have H2 := Lib.hid hb; clear hb))
  go_ret
  exact ⟨rfl, bt (((below_one w _).alloc (by simp) _).alloc (by simp <;> omega) _) (bt H2.out (below_one w2 _))⟩
end Go.Proofs.YtopceggmdieppaaDoor.Emu
namespace Go.Proofs.YtopceggmdieppaaDoor.Emu
open Go.RowKit Go.Proofs.YtopceggmdieppaaDoor.Enc Go.Proofs.YtopceggmdieppaaDoor.Graph
def pickP (c n : Int) : Int := (if c < 0 then -(c + 1) else c) % n
theorem pickP_range (c : Int) {n : Int} (h : 1 ≤ n) : 0 ≤ pickP c n ∧ pickP c n < n := by
  unfold pickP
  exact ⟨Int.emod_nonneg _ (by omega), Int.emod_lt_of_pos _ (by omega)⟩
theorem ret_int {a b : Int} (h : a = b) : Ending.returned (.int .i64 a) = .returned (.int .i64 b) := by rw [h]
theorem ret_bool {a b : Bool} (h : a = b) : Ending.returned (.bool a) = .returned (.bool b) := by rw [h]
set_option maxHeartbeats 2000000 in
theorem pick_any (c n : Int) (w : World) (hc : inR c) (hn : 1 ≤ n ∧ n ≤ 9223372036854775807) : Calls Tryd.prog 25 #[.int .i64 c, .int .i64 n] w fun e w' => e = .returned (.int .i64 (pickP c n)) ∧ w' = w := by
  unfold inR at hc
  obtain ⟨h1, h2⟩ := hc
  obtain ⟨h3, h4⟩ := hn
  by_cases h : c < 0
  · have h5 : 0 ≤ -(c + 1) := by omega
    go_enter Tryd.func25, Tryd.ntmps25
    go_wp2
    go_ret
    exact ⟨ret_int (by unfold pickP; rw [if_pos (by omega)]; first | rfl | (rw [← Int.neg_tmod, Int.tmod_eq_emod_of_nonneg h5])), rfl⟩
  · have h5 : 0 ≤ c := by omega
    go_enter Tryd.func25, Tryd.ntmps25
    go_wp2
    go_ret
    exact ⟨ret_int (by unfold pickP; rw [if_neg (by omega)]; try rfl), rfl⟩
end Go.Proofs.YtopceggmdieppaaDoor.Emu
namespace Go.Proofs.YtopceggmdieppaaDoor.Emu
open Go.RowKit Go.Proofs.YtopceggmdieppaaDoor.Enc Go.Proofs.YtopceggmdieppaaDoor.Graph

def iv (x : Int) : Value := .int .i64 x
def uv (x : Int) : Value := .int .u32 x
theorem run_append_nil0 {P : Program} (w : World) (t e ty : TypeId) (size : Nat) (hu : P.underlying t = some (.slice e)) (hs : (P.info? e).map (·.size) = some size) (c : Nat) (p : Option Addr) :
    (Builtin.append_ #[t, t] ty #[.slice none 0 0, .slice p 0 c]).run P w = .ok (.slice none 0 0) w := by
  cases hq : P.info? e with
  | none => simp [hq] at hs
  | some i =>
    have hl : ∀ (x : Addr), (loadCells x 0).run P w = .ok #[] w := fun x => by simpa using run_loadCells_list (P := P) w x [] (by simp)
    cases p <;> simp [Builtin.append_, run_underlying hu, Builtin.lenOf, Builtin.firstCells, sizeOf, typeInfo, hq, hl]
theorem wpList_append_nil0 {P : Program} {w : World} {ops : Array Oper} {rest : List Oper} {o : Oper} {a : Act} {Q : Exit → Act → World → Prop} (hgd : o.guard = none) (d s : Operand) (t : TypeId)
    (ho : o.op = .call { callee := .builtin .append, args := #[d, s], argTypes := #[t, t] }) (e : TypeId) (size : Nat) (hu : P.underlying t = some (.slice e)) (hs : (P.info? e).map (·.size) = some size)
    (c : Nat) (p : Option Addr) (hd : a.eval d = .slice none 0 0) (hx : a.eval s = .slice p 0 c)
    (h : wpList P ops Q rest (a.put o.dst (.slice none 0 0)) w) : wpList P ops Q (o :: rest) a w := by
  refine wpList_plain hgd fun K hK => ?_
  have hrun := run_append_nil0 (P := P) w t e o.type size hu hs c p
  unfold Oper.wp
  simp [execOp, ho, resolve, invoke, builtin, hd, hx, hrun, Result.andThen]
  exact hK _ _ h
theorem info_parts {P : Program} {t : TypeId} {z : Value} {s b : Nat} (h : (P.info? t).map (fun i => (i.zero, i.size, i.bytes)) = some (some z, s, b)) : ∃ i, P.info? t = some i ∧ i.zero = some z ∧ i.size = s ∧ i.bytes = b := by
  obtain ⟨i, h1, h2⟩ := Option.map_eq_some_iff.1 h
  injection h2 with h2 h3
  injection h3 with h3 h4
  exact ⟨i, h1, h2, h3, h4⟩
theorem info_int : (Tryd.prog.info? 3).map (fun i => (i.zero, i.size, i.bytes)) = some (some (.int .i64 0), 1, 8) := by kernel_rfl
theorem info_u32 : (Tryd.prog.info? 37).map (fun i => (i.zero, i.size, i.bytes)) = some (some (.int .u32 0), 1, 4) := by kernel_rfl
/-- A row of one cell each, as it lies. -/
def RowAt (w : World) (v : Value) (xs : List Value) : Prop := SlR w 1 v xs.length fun i b o => ∀ x, xs[i]? = some x → w.cell? ⟨b, o, none⟩ = some x
theorem row_ints {w : World} {v : Value} {l : List Int} (h : IntsR w v l) : RowAt w v (l.map iv) := by
  unfold RowAt
  rw [List.length_map]
  rcases h with h | ⟨b, o, c, h1, h2, h3, h4, h5⟩
  · exact .inl h
  · refine .inr ⟨b, o, c, h1, h2, h3, h4, fun i hi x hx => ?_⟩
    rw [List.getElem?_map] at hx
    obtain ⟨y, hy, rfl⟩ := Option.map_eq_some_iff.1 hx
    exact h5 i hi y hy
theorem row_words {w : World} {v : Value} {l : List Int} (h : WordsR w v l) : RowAt w v (l.map uv) := by
  unfold RowAt
  rw [List.length_map]
  rcases h with h | ⟨b, o, c, h1, h2, h3, h4, h5⟩
  · exact .inl h
  · refine .inr ⟨b, o, c, h1, h2, h3, h4, fun i hi x hx => ?_⟩
    rw [List.getElem?_map] at hx
    obtain ⟨y, hy, rfl⟩ := Option.map_eq_some_iff.1 hx
    exact h5 i hi y hy
/-- A row appended to a row of one's own. -/
theorem wpList_append_row {w : World} {ops : Array Oper} {rest : List Oper} {o : Oper} {a : Act} {Q : Exit → Act → World → Prop} (hgd : o.guard = none) (s x : Operand) (t e : TypeId) (z : Value) (by_ : Nat)
    (ho : o.op = .call { callee := .builtin .append, args := #[s, x], argTypes := #[t, t] }) (ht : Tryd.prog.underlying t = some (.slice e)) (hinfo : (Tryd.prog.info? e).map (fun i => (i.zero, i.size, i.bytes)) = some (some z, 1, by_)) (hz : z.cells.size = 1) (hby : 1 ≤ by_)
    (B : Nat) (v : Value) (n : Nat) (ys : List Value) (hs : a.eval s = v) (hown : w.ownsRow B e 1 v n ys) (hB : B ≤ w.heap.size)
    (xs : List Value) (vx : Value) (hx : a.eval x = vx) (hl : RowAt w vx xs) (h1 : ∀ u ∈ xs, u.oneCell' = true) (h64 : ((n + xs.length) + (n + xs.length) / 4 + 192) * by_ ≤ 281474976710656)
    (h0 : xs.length = 0 → (v = .slice none 0 0 ∧ n = 0) ∨ ∃ b c, vx = .slice (some b) 0 c)
    (h : ∀ v' w', w'.ownsRow B e 1 v' (n + xs.length) (ys ++ xs) → w.grownBy w' v.ownBlock → wpList Tryd.prog ops Q rest (a.put o.dst v') w') : wpList Tryd.prog ops Q (o :: rest) a w := by
  obtain ⟨i0, HI, hz0, hz1, hz2⟩ := info_parts hinfo
  have key : ∀ (b : Addr) (m c : Nat), vx = .slice (some b) m c → m = xs.length → (∀ j u, xs[j]? = some u → w.cell? (b.add j) = some u) → wpList Tryd.prog ops Q (o :: rest) a w := by
    intro b m c e1 e2 hnews
    refine wpList_append_own_wide w hgd s x t ho B e i0 z 1 by_ ht HI hz0 hz1 hz2 hz (by omega) v n ys hs hown b m c xs (by rw [hx, e1]) (by omega) hnews h1 (by have := Nat.le_mul_of_pos_right ((n + xs.length) + (n + xs.length) / 4 + 192) hby; unfold maxLen; omega) (by rw [e2]; exact h64) hB ?_
    · intro v' w' h2 h3 _
      subst e2
      exact h v' w' h2 h3
  rcases Nat.eq_zero_or_pos xs.length with hz9 | hz9
  · have hxs : xs = [] := List.length_eq_zero_iff.1 hz9
    rcases h0 hz9 with ⟨rfl, rfl⟩ | ⟨b, c, hv⟩
    · rcases hl with ⟨_, p, c, rfl⟩ | ⟨_, _, _, _, h2, _⟩
      · refine wpList_append_nil0 hgd s x t ho e 1 ht (by rw [HI]; simp [hz1]) c p hs hx ?_
        have hown' : ys = [] := List.eq_nil_of_length_eq_zero (by simpa using hown.1)
        subst hown'
        exact h _ _ (by rw [hz9, hxs]; exact World.ownsRow_nil _ _ _ _) (World.grownBy.refl _ _)
      · omega
    · exact key b 0 c hv hz9.symm (fun j u hu => by rw [hxs] at hu; simp at hu)
  · obtain ⟨b, o1, c, h2, _, _, h4⟩ := SlR.form2 hl hz9
    refine key ⟨b, o1, none⟩ xs.length c h2 rfl (fun j u hu => ?_)
    rw [Go.WideShapes.add_plain]
    have := h4 j (List.getElem?_eq_some_iff.1 hu).1 u hu
    rwa [Nat.mul_one] at this
theorem one_iv {l : List Int} : ∀ u ∈ l.map iv, u.oneCell' = true := fun u hu => by obtain ⟨y, _, rfl⟩ := List.mem_map.1 hu; rfl
theorem one_uv {l : List Int} : ∀ u ∈ l.map uv, u.oneCell' = true := fun u hu => by obtain ⟨y, _, rfl⟩ := List.mem_map.1 hu; rfl
theorem row_own {w : World} {B : Nat} {t : TypeId} {v : Value} {n : Nat} {xs : List Value} (h : w.ownsRow B t 1 v n xs) : RowAt w v xs := by
  have hlen : xs.length = n := by simpa using h.1
  obtain ⟨_, ⟨rfl, h0⟩ | ⟨g, cap, cur, rfl, h3, h4, h5, h6, h7, h8⟩⟩ := h
  · exact .inl ⟨by omega, none, 0, rfl⟩
  · rcases Nat.eq_zero_or_pos xs.length with h0 | h0
    · exact .inl ⟨h0, _, cap, by rw [← hlen, h0]⟩
    · refine .inr ⟨g, 0, cap, by rw [hlen], h0, ⟨by omega, h6⟩, lt_of_block h4, fun i hi x hx => ?_⟩
      rw [Nat.zero_add, Nat.mul_one]
      refine cell_of_block h4 ?_
      rw [← h8, List.getElem?_take_of_lt (by omega)] at hx
      rw [← Array.getElem?_toList]; exact hx
theorem ints_row {w : World} {v : Value} {l : List Int} (h : RowAt w v (l.map iv)) : IntsR w v l := by
  unfold RowAt at h
  rw [List.length_map] at h
  rcases h with h | ⟨b, o, c, h1, h2, h3, h4, h5⟩
  · exact .inl h
  · exact .inr ⟨b, o, c, h1, h2, h3, h4, fun i hi x hx => h5 i hi _ (by rw [List.getElem?_map, hx]; rfl)⟩
theorem words_row {w : World} {v : Value} {l : List Int} (h : RowAt w v (l.map uv)) : WordsR w v l := by
  unfold RowAt at h
  rw [List.length_map] at h
  rcases h with h | ⟨b, o, c, h1, h2, h3, h4, h5⟩
  · exact .inl h
  · exact .inr ⟨b, o, c, h1, h2, h3, h4, fun i hi x hx => h5 i hi _ (by rw [List.getElem?_map, hx]; rfl)⟩
theorem row_below {w w' : World} {B : Nat} {e : TypeId} {size : Nat} {v : Value} {n : Nat} {xs : List Value} (h : w.ownsRow B e size v n xs) (hx : Below w.heap.size w w') : w'.ownsRow B e size v n xs := by
  obtain ⟨h1, h2⟩ := h
  refine ⟨h1, ?_⟩
  rcases h2 with h2 | ⟨g, cap, cur, h3, h4, h5, h6⟩
  · exact .inl h2
  · refine .inr ⟨g, cap, cur, h3, h4, ?_, h6⟩
    rw [hx.block g (lt_of_block h5)]; exact h5
theorem own_base {w : World} {B C : Nat} {e : TypeId} {size : Nat} {v : Value} {n : Nat} {xs : List Value} (h : w.ownsRow B e size v n xs) (hc : C ≤ B) : w.ownsRow C e size v n xs := by
  obtain ⟨h1, h2⟩ := h
  refine ⟨h1, ?_⟩
  rcases h2 with h2 | ⟨g, cap, cur, h3, h4, h5, h6⟩
  · exact .inl h2
  · exact .inr ⟨g, cap, cur, h3, Nat.le_trans hc h4, h5, h6⟩
theorem own_form {w : World} {B : Nat} {e : TypeId} {v : Value} {n : Nat} {xs : List Value} (h : w.ownsRow B e 1 v n xs) : ∃ p c, v = .slice p n c ∧ n ≤ c := by
  obtain ⟨_, ⟨rfl, rfl⟩ | ⟨g, cap, cur, rfl, _, _, h5, _⟩⟩ := h
  · exact ⟨none, 0, rfl, Nat.le_refl _⟩
  · exact ⟨_, _, rfl, h5⟩
/-- An image in rows of one's own, each apart from the others. -/
structure ImgOwn (w : World) (B : Nat) (m : Image) (vw vk vd : Value) : Prop where
  words : w.ownsRow B 37 1 vw m.words.length (m.words.map uv)
  kinds : w.ownsRow B 3 1 vk m.kinds.length (m.kinds.map iv)
  data : w.ownsRow B 37 1 vd m.data.length (m.data.map uv)
  wk : ∀ b, vw.ownBlock = some b → vk.ownBlock ≠ some b
  wd : ∀ b, vw.ownBlock = some b → vd.ownBlock ≠ some b
  kd : ∀ b, vk.ownBlock = some b → vd.ownBlock ≠ some b
theorem ImgOwn.img {w : World} {B : Nat} {m : Image} {vw vk vd : Value} (h : ImgOwn w B m vw vk vd) : ImgR w m vw vk vd := ⟨words_row (row_own h.words), ints_row (row_own h.kinds), words_row (row_own h.data)⟩
theorem ImgOwn.below {w w' : World} {B : Nat} {m : Image} {vw vk vd : Value} (h : ImgOwn w B m vw vk vd) (hb : Below w.heap.size w w') : ImgOwn w' B m vw vk vd := ⟨row_below h.words hb, row_below h.kinds hb, row_below h.data hb, h.wk, h.wd, h.kd⟩
def CopyPost (m : Image) (w : World) (e : Ending) (w' : World) : Prop := ∃ vw vk vd, e = .returned (.agg #[vw, vk, vd, .int .i64 m.entry]) ∧ ImgOwn w' w.heap.size m vw vk vd ∧ Below w.heap.size w w'
end Go.Proofs.YtopceggmdieppaaDoor.Emu
namespace Go.Proofs.YtopceggmdieppaaDoor.Emu
open Go.RowKit Go.Proofs.YtopceggmdieppaaDoor.Enc Go.Proofs.YtopceggmdieppaaDoor.Graph
theorem box4 {w : World} {b : Nat} {v0 v1 v2 v3 : Value} {t : TypeId} (h : w.heap[b]? = some (.cells #[v0, v1, v2, v3] t (0, 0))) :
    w.cell? ⟨b, 0, none⟩ = some v0 ∧ w.cell? ⟨b, 1, none⟩ = some v1 ∧ w.cell? ⟨b, 2, none⟩ = some v2 ∧ w.cell? ⟨b, 3, none⟩ = some v3 ∧
    w.frozen? ⟨b, 0, none⟩ = false ∧ w.frozen? ⟨b, 1, none⟩ = false ∧ w.frozen? ⟨b, 2, none⟩ = false ∧ w.frozen? ⟨b, 3, none⟩ = false ∧ b < w.heap.size :=
  ⟨cell_of_block h (k := 0) rfl, cell_of_block h (k := 1) rfl, cell_of_block h (k := 2) rfl, cell_of_block h (k := 3) rfl, by simp [World.frozen?, h], by simp [World.frozen?, h], by simp [World.frozen?, h], by simp [World.frozen?, h], lt_of_block h⟩
theorem set_other {w : World} {b c i : Nat} {v : Value} {o : Option Obj} (h : w.heap[c]? = o) (hne : c ≠ b) : (w.setCell ⟨b, i, none⟩ v).heap[c]? = o := (heap_setCell_other w ⟨b, i, none⟩ c v hne).trans h
theorem own_set {w : World} {B : Nat} {e : TypeId} {size : Nat} {v : Value} {n : Nat} {xs : List Value} {b i : Nat} {u : Value} (h : w.ownsRow B e size v n xs) (hb : b < B) : (w.setCell ⟨b, i, none⟩ u).ownsRow B e size v n xs := by
  obtain ⟨h1, h2⟩ := h
  refine ⟨h1, ?_⟩
  rcases h2 with h2 | ⟨g, cap, cur, h3, h4, h5, h6⟩
  · exact .inl h2
  · exact .inr ⟨g, cap, cur, h3, h4, set_other h5 (by omega), h6⟩
set_option maxHeartbeats 16000000 in
set_option maxRecDepth 100000 in
theorem copy_any (m : Image) (vw vk vd : Value) (w : World) (h : ImgR w m vw vk vd) (hm : SmI m) : Calls Tryd.prog 19 #[.agg #[vw, vk, vd, .int .i64 m.entry]] w (CopyPost m w) := by
  obtain ⟨lw, lk, ld⟩ := And.intro hm.lw (And.intro hm.lk hm.ld)
  have HW0 := Lib.hid (row_words h.words)
  have HK0 := Lib.hid (row_ints h.kinds)
  have HD0 := Lib.hid (row_words h.data)
  have HI := Lib.hid h
  obtain ⟨pw, cw, rfl⟩ := h.words.form
  obtain ⟨pk, ck, rfl⟩ := h.kinds.form
  obtain ⟨pd, cd, rfl⟩ := h.data.form
  clear h hm
  obtain ⟨words, kinds, data, entry⟩ := m
  simp only at *
  have HLW : Hid ((words.map uv).length = words.length) := Lib.hid (List.length_map _)
  have HLK : Hid ((kinds.map iv).length = kinds.length) := Lib.hid (List.length_map _)
  have HLD : Hid ((data.map uv).length = data.length) := Lib.hid (List.length_map _)
  obtain ⟨nw, hnw⟩ : ∃ n, n = words.length := ⟨_, rfl⟩
  obtain ⟨nk, hnk⟩ : ∃ n, n = kinds.length := ⟨_, rfl⟩
  obtain ⟨nd, hnd⟩ : ∃ n, n = data.length := ⟨_, rfl⟩
  have HNW := Lib.hid hnw
  have HNK := Lib.hid hnk
  have HND := Lib.hid hnd
  rw [← hnw] at HW0 lw HLW ⊢
  rw [← hnk] at HK0 lk HLK ⊢
  rw [← hnd] at HD0 ld HLD ⊢
  clear hnw hnk hnd
  generalize hxw : words.map uv = xw at HW0 HLW
  generalize hxk : kinds.map iv = xk at HK0 HLK
  generalize hxd : data.map uv = xd at HD0 HLD
  have HOW : Hid (∀ u ∈ xw, u.oneCell' = true) := Lib.hid (by rw [← hxw]; exact one_uv)
  have HOK : Hid (∀ u ∈ xk, u.oneCell' = true) := Lib.hid (by rw [← hxk]; exact one_iv)
  have HOD : Hid (∀ u ∈ xd, u.oneCell' = true) := Lib.hid (by rw [← hxd]; exact one_uv)
  have HXW := Lib.hid hxw
  have HXK := Lib.hid hxk
  have HXD := Lib.hid hxd
  clear hxw hxk hxd
  have hb3 : Below w.heap.size w (((w.alloc (.cells #[.slice pw nw cw, .slice pk nk ck, .slice pd nd cd, .int .i64 entry] 48)).alloc (.cells #[.slice none 0 0, .slice none 0 0, .slice none 0 0, .int .i64 0] 48)).alloc (.cells #[.slice none 0 0, .slice none 0 0, .slice none 0 0, .int .i64 entry] 48)) := ((below_one w _).alloc (by simp) _).alloc (by simp; omega) _
  have HB3 := Lib.hid hb3
  have HA3 : Hid ((((w.alloc (.cells #[.slice pw nw cw, .slice pk nk ck, .slice pd nd cd, .int .i64 entry] 48)).alloc (.cells #[.slice none 0 0, .slice none 0 0, .slice none 0 0, .int .i64 0] 48)).alloc (.cells #[.slice none 0 0, .slice none 0 0, .slice none 0 0, .int .i64 entry] 48)).heap[w.heap.size]? = some (.cells #[.slice pw nw cw, .slice pk nk ck, .slice pd nd cd, .int .i64 entry] 48 (0, 0))) := Lib.hid ((heap_alloc_old _ _ (by simp; omega)).trans ((heap_alloc_old _ _ (by simp)).trans (heap_alloc_new w _)))
  have HB3' : Hid ((((w.alloc (.cells #[.slice pw nw cw, .slice pk nk ck, .slice pd nd cd, .int .i64 entry] 48)).alloc (.cells #[.slice none 0 0, .slice none 0 0, .slice none 0 0, .int .i64 0] 48)).alloc (.cells #[.slice none 0 0, .slice none 0 0, .slice none 0 0, .int .i64 entry] 48)).heap[w.heap.size + 1]? = some (.cells #[.slice none 0 0, .slice none 0 0, .slice none 0 0, .int .i64 0] 48 (0, 0))) := Lib.hid ((heap_alloc_old _ _ (by simp)).trans (by have := heap_alloc_new (w.alloc (.cells #[.slice pw nw cw, .slice pk nk ck, .slice pd nd cd, .int .i64 entry] 48)) (.cells #[.slice none 0 0, .slice none 0 0, .slice none 0 0, .int .i64 0] 48); rwa [World.size_alloc] at this))
  have HC3 : Hid ((((w.alloc (.cells #[.slice pw nw cw, .slice pk nk ck, .slice pd nd cd, .int .i64 entry] 48)).alloc (.cells #[.slice none 0 0, .slice none 0 0, .slice none 0 0, .int .i64 0] 48)).alloc (.cells #[.slice none 0 0, .slice none 0 0, .slice none 0 0, .int .i64 entry] 48)).heap[w.heap.size + 1 + 1]? = some (.cells #[.slice none 0 0, .slice none 0 0, .slice none 0 0, .int .i64 entry] 48 (0, 0))) := Lib.hid (by have := heap_alloc_new ((w.alloc (.cells #[.slice pw nw cw, .slice pk nk ck, .slice pd nd cd, .int .i64 entry] 48)).alloc (.cells #[.slice none 0 0, .slice none 0 0, .slice none 0 0, .int .i64 0] 48)) (.cells #[.slice none 0 0, .slice none 0 0, .slice none 0 0, .int .i64 entry] 48); rwa [World.size_alloc, World.size_alloc] at this)
  have HS3 : Hid ((((w.alloc (.cells #[.slice pw nw cw, .slice pk nk ck, .slice pd nd cd, .int .i64 entry] 48)).alloc (.cells #[.slice none 0 0, .slice none 0 0, .slice none 0 0, .int .i64 0] 48)).alloc (.cells #[.slice none 0 0, .slice none 0 0, .slice none 0 0, .int .i64 entry] 48)).heap.size = w.heap.size + 1 + 1 + 1) := Lib.hid (by simp)
  clear hb3
  go_enter Tryd.func19, Tryd.ntmps19
  go_upto_region 2 with (fail)
  generalize (((w.alloc (.cells #[.slice pw nw cw, .slice pk nk ck, .slice pd nd cd, .int .i64 entry] 48)).alloc (.cells #[.slice none 0 0, .slice none 0 0, .slice none 0 0, .int .i64 0] 48)).alloc (.cells #[.slice none 0 0, .slice none 0 0, .slice none 0 0, .int .i64 entry] 48)) = x3 at HB3 HA3 HB3' HC3 HS3 ⊢
  obtain ⟨s, hs⟩ : ∃ s, s = w.heap.size := ⟨_, rfl⟩
  rw [← hs] at HA3 HB3' HC3 HS3 ⊢
  have HSS := Lib.hid hs
  clear hs
  obtain ⟨a30, a31, a32, a33, a3f0, a3f1, a3f2, a3f3, a3l⟩ := box4 HA3.out
  obtain ⟨b30, b31, b32, b33, b3f0, b3f1, b3f2, b3f3, b3l⟩ := box4 HB3'.out
  obtain ⟨c30, c31, c32, c33, c3f0, c3f1, c3f2, c3f3, c3l⟩ := box4 HC3.out
  go_upto_region 3 with (
    at_builtin
    refine wpList_append_row ?w1 (.tmp 8) (.tmp 10) 24 37 _ 4 ?w2 Tryd.underlying24 info_u32 rfl (by omega) (s + 3) (.slice none 0 0) 0 [] ?w3 (World.ownsRow_nil _ _ _ _) (by have := HS3.out; omega) xw (.slice pw nw cw) ?w4 (SlR.below HW0.out HB3.out (fun i b o hl hP x hx => (HB3.out.cell (p := ⟨b, o, none⟩) hl).trans (hP x hx))) HOW.out ?w5 (fun _ => .inl ⟨rfl, rfl⟩) ?w6
    (case w1 => rfl)
    (case w2 => rfl)
    (case w3 => rfl)
    (case w4 => rfl)
    (case w5 => rw [HLW.out]; omega)
    intro v4 w4 h5 h6
    rw [HLW.out, Nat.zero_add, List.nil_append] at h5
    have hv4 := own_form h5
    obtain ⟨p4, c4, rfl, _⟩ := hv4
    have hb4 : Below x3.heap.size x3 w4 := Below.grown (Below.refl _ _) h6 (Nat.le_refl _) (fun k hk => by cases hk)
    have HA4 := Lib.hid ((hb4.block s (by have := HS3.out; omega)).trans HA3.out)
    have HB4' := Lib.hid ((hb4.block (s + 1) (by have := HS3.out; omega)).trans HB3'.out)
    have HC4 := Lib.hid ((hb4.block (s + 1 + 1) (by have := HS3.out; omega)).trans HC3.out)
    have HW4 := Lib.hid h5
    have HB4 : Hid (Below w.heap.size w w4) := Lib.hid (bt HB3.out hb4)
    have HS4 : Hid (s + 3 ≤ w4.heap.size) := Lib.hid (by have := hb4.size; have := HS3.out; omega)
    clear a30 a31 a32 a33 a3f0 a3f1 a3f2 a3f3 a3l b30 b31 b32 b33 b3f0 b3f1 b3f2 b3f3 b3l c30 c31 c32 c33 c3f0 c3f1 c3f2 c3f3 c3l
    obtain ⟨a40, a41, a42, a43, a4f0, a4f1, a4f2, a4f3, a4l⟩ := box4 HA4.out
    obtain ⟨b40, b41, b42, b43, b4f0, b4f1, b4f2, b4f3, b4l⟩ := box4 HB4'.out
    obtain ⟨c4_0, c4_1, c4_2, c4_3, c4_f0, c4_f1, c4_f2, c4_f3, c4_l⟩ := box4 HC4.out
    clear h5 h6 hb4)
  have HX4 : Hid (Below w.heap.size w (w4.setCell ⟨s + 1 + 1, 0, none⟩ (.slice p4 nw c4))) := Lib.hid (HB4.out.setCell (show w.heap.size ≤ s + 1 + 1 by have := HSS.out; omega) _)
  have HXA4 : Hid ((w4.setCell ⟨s + 1 + 1, 0, none⟩ (.slice p4 nw c4)).heap[s]? = some (.cells #[.slice pw nw cw, .slice pk nk ck, .slice pd nd cd, .int .i64 entry] 48 (0, 0))) := Lib.hid (set_other HA4.out (by omega))
  have HXB4 : Hid ((w4.setCell ⟨s + 1 + 1, 0, none⟩ (.slice p4 nw c4)).heap[s + 1]? = some (.cells #[.slice none 0 0, .slice none 0 0, .slice none 0 0, .int .i64 0] 48 (0, 0))) := Lib.hid (set_other HB4'.out (by omega))
  have HXC4 : Hid ((w4.setCell ⟨s + 1 + 1, 0, none⟩ (.slice p4 nw c4)).heap[s + 1 + 1]? = some (.cells #[.slice p4 nw c4, .slice none 0 0, .slice none 0 0, .int .i64 entry] 48 (0, 0))) := Lib.hid (heap_setCell_same w4 (s + 1 + 1) 0 _ _ (.slice p4 nw c4) HC4.out)
  have HXS4 : Hid (s + 3 ≤ (w4.setCell ⟨s + 1 + 1, 0, none⟩ (.slice p4 nw c4)).heap.size) := Lib.hid (by have := HS4.out; simpa [World.setCell] using this)
  have HXW4 := Lib.hid (own_set (b := s + 1 + 1) (i := 0) (u := .slice p4 nw c4) HW4.out (by omega))
  clear a40 a41 a42 a43 a4f0 a4f1 a4f2 a4f3 a4l b40 b41 b42 b43 b4f0 b4f1 b4f2 b4f3 b4l c4_0 c4_1 c4_2 c4_3 c4_f0 c4_f1 c4_f2 c4_f3 c4_l
  generalize (w4.setCell ⟨s + 1 + 1, 0, none⟩ (.slice p4 nw c4)) = x4 at HX4 HXA4 HXB4 HXC4 HXS4 HXW4 ⊢
  obtain ⟨a4x0, a4x1, a4x2, a4x3, a4xf0, a4xf1, a4xf2, a4xf3, a4xl⟩ := box4 HXA4.out
  obtain ⟨b4x0, b4x1, b4x2, b4x3, b4xf0, b4xf1, b4xf2, b4xf3, b4xl⟩ := box4 HXB4.out
  obtain ⟨c4x0, c4x1, c4x2, c4x3, c4xf0, c4xf1, c4xf2, c4xf3, c4xl⟩ := box4 HXC4.out
  go_upto_region 4 with (
    at_builtin
    refine wpList_append_row ?k1 (.tmp 14) (.tmp 16) 25 3 _ 8 ?k2 Tryd.underlying25 info_int rfl (by omega) x4.heap.size (.slice none 0 0) 0 [] ?k3 (World.ownsRow_nil _ _ _ _) (Nat.le_refl _) xk (.slice pk nk ck) ?k4 (SlR.below HK0.out HX4.out (fun i b o hl hP x hx => (HX4.out.cell (p := ⟨b, o, none⟩) hl).trans (hP x hx))) HOK.out ?k5 (fun _ => .inl ⟨rfl, rfl⟩) ?k6
    (case k1 => rfl)
    (case k2 => rfl)
    (case k3 => rfl)
    (case k4 => rfl)
    (case k5 => rw [HLK.out]; omega)
    intro v5 w5 h5 h6
    rw [HLK.out, Nat.zero_add, List.nil_append] at h5
    have hv4 := own_form h5
    obtain ⟨p5, c5, rfl, _⟩ := hv4
    have hb4 : Below x4.heap.size x4 w5 := Below.grown (Below.refl _ _) h6 (Nat.le_refl _) (fun k hk => by cases hk)
    have HA5 := Lib.hid ((hb4.block s (by have := HXS4.out; omega)).trans HXA4.out)
    have HB5' := Lib.hid ((hb4.block (s + 1) (by have := HXS4.out; omega)).trans HXB4.out)
    have HC5 := Lib.hid ((hb4.block (s + 1 + 1) (by have := HXS4.out; omega)).trans HXC4.out)
    have HW5 := Lib.hid (row_below HXW4.out hb4)
    have HK5 := Lib.hid h5
    have HL5 : Hid (∀ b, (Value.slice p4 nw c4).ownBlock = some b → b < x4.heap.size) := Lib.hid (fun b hb => (HXW4.out.lt b hb).2)
    have HB5 : Hid (Below w.heap.size w w5) := Lib.hid (bt HX4.out hb4)
    have HS5 : Hid (s + 3 ≤ w5.heap.size) := Lib.hid (by have := hb4.size; have := HXS4.out; omega)
    clear a4x0 a4x1 a4x2 a4x3 a4xf0 a4xf1 a4xf2 a4xf3 a4xl b4x0 b4x1 b4x2 b4x3 b4xf0 b4xf1 b4xf2 b4xf3 b4xl c4x0 c4x1 c4x2 c4x3 c4xf0 c4xf1 c4xf2 c4xf3 c4xl
    obtain ⟨a50, a51, a52, a53, a5f0, a5f1, a5f2, a5f3, a5l⟩ := box4 HA5.out
    obtain ⟨b50, b51, b52, b53, b5f0, b5f1, b5f2, b5f3, b5l⟩ := box4 HB5'.out
    obtain ⟨c5_0, c5_1, c5_2, c5_3, c5_f0, c5_f1, c5_f2, c5_f3, c5_l⟩ := box4 HC5.out
    clear h5 h6 hb4)
  have HX5 : Hid (Below w.heap.size w (w5.setCell ⟨s + 1 + 1, 1, none⟩ (.slice p5 nk c5))) := Lib.hid (HB5.out.setCell (show w.heap.size ≤ s + 1 + 1 by have := HSS.out; omega) _)
  have HXA5 : Hid ((w5.setCell ⟨s + 1 + 1, 1, none⟩ (.slice p5 nk c5)).heap[s]? = some (.cells #[.slice pw nw cw, .slice pk nk ck, .slice pd nd cd, .int .i64 entry] 48 (0, 0))) := Lib.hid (set_other HA5.out (by omega))
  have HXB5 : Hid ((w5.setCell ⟨s + 1 + 1, 1, none⟩ (.slice p5 nk c5)).heap[s + 1]? = some (.cells #[.slice none 0 0, .slice none 0 0, .slice none 0 0, .int .i64 0] 48 (0, 0))) := Lib.hid (set_other HB5'.out (by omega))
  have HXC5 : Hid ((w5.setCell ⟨s + 1 + 1, 1, none⟩ (.slice p5 nk c5)).heap[s + 1 + 1]? = some (.cells #[.slice p4 nw c4, .slice p5 nk c5, .slice none 0 0, .int .i64 entry] 48 (0, 0))) := Lib.hid (heap_setCell_same w5 (s + 1 + 1) 1 _ _ (.slice p5 nk c5) HC5.out)
  have HXS5 : Hid (s + 3 ≤ (w5.setCell ⟨s + 1 + 1, 1, none⟩ (.slice p5 nk c5)).heap.size) := Lib.hid (by have := HS5.out; simpa [World.setCell] using this)
  have HXW5 := Lib.hid (own_set (b := s + 1 + 1) (i := 1) (u := .slice p5 nk c5) HW5.out (by omega))
  have HXK5 := Lib.hid (own_set (b := s + 1 + 1) (i := 1) (u := .slice p5 nk c5) HK5.out (by have := HXS4.out; omega))
  clear a50 a51 a52 a53 a5f0 a5f1 a5f2 a5f3 a5l b50 b51 b52 b53 b5f0 b5f1 b5f2 b5f3 b5l c5_0 c5_1 c5_2 c5_3 c5_f0 c5_f1 c5_f2 c5_f3 c5_l
  generalize (w5.setCell ⟨s + 1 + 1, 1, none⟩ (.slice p5 nk c5)) = x5 at HX5 HXA5 HXB5 HXC5 HXS5 HXW5 HXK5 ⊢
  obtain ⟨a5x0, a5x1, a5x2, a5x3, a5xf0, a5xf1, a5xf2, a5xf3, a5xl⟩ := box4 HXA5.out
  obtain ⟨b5x0, b5x1, b5x2, b5x3, b5xf0, b5xf1, b5xf2, b5xf3, b5xl⟩ := box4 HXB5.out
  obtain ⟨c5x0, c5x1, c5x2, c5x3, c5xf0, c5xf1, c5xf2, c5xf3, c5xl⟩ := box4 HXC5.out
  go_upto_region 5 with (
    at_builtin
    refine wpList_append_row ?d1 (.tmp 20) (.tmp 22) 24 37 _ 4 ?d2 Tryd.underlying24 info_u32 rfl (by omega) x5.heap.size (.slice none 0 0) 0 [] ?d3 (World.ownsRow_nil _ _ _ _) (Nat.le_refl _) xd (.slice pd nd cd) ?d4 (SlR.below HD0.out HX5.out (fun i b o hl hP x hx => (HX5.out.cell (p := ⟨b, o, none⟩) hl).trans (hP x hx))) HOD.out ?d5 (fun _ => .inl ⟨rfl, rfl⟩) ?d6
    (case d1 => rfl)
    (case d2 => rfl)
    (case d3 => rfl)
    (case d4 => rfl)
    (case d5 => rw [HLD.out]; omega)
    intro v6 w6 h5 h6
    rw [HLD.out, Nat.zero_add, List.nil_append] at h5
    have hv4 := own_form h5
    obtain ⟨p6, c6, rfl, _⟩ := hv4
    have hb4 : Below x5.heap.size x5 w6 := Below.grown (Below.refl _ _) h6 (Nat.le_refl _) (fun k hk => by cases hk)
    have HA6 := Lib.hid ((hb4.block s (by have := HXS5.out; omega)).trans HXA5.out)
    have HB6' := Lib.hid ((hb4.block (s + 1) (by have := HXS5.out; omega)).trans HXB5.out)
    have HC6 := Lib.hid ((hb4.block (s + 1 + 1) (by have := HXS5.out; omega)).trans HXC5.out)
    have HW6 := Lib.hid (row_below HXW5.out hb4)
    have HK6 := Lib.hid (row_below HXK5.out hb4)
    have HD6 := Lib.hid h5
    have HL6 : Hid (∀ b, (Value.slice p4 nw c4).ownBlock = some b → b < x5.heap.size) := Lib.hid (fun b hb => (HXW5.out.lt b hb).2)
    have HM6 : Hid (∀ b, (Value.slice p5 nk c5).ownBlock = some b → b < x5.heap.size) := Lib.hid (fun b hb => (HXK5.out.lt b hb).2)
    have HB6 : Hid (Below w.heap.size w w6) := Lib.hid (bt HX5.out hb4)
    have HS6 : Hid (s + 3 ≤ w6.heap.size) := Lib.hid (by have := hb4.size; have := HXS5.out; omega)
    clear a5x0 a5x1 a5x2 a5x3 a5xf0 a5xf1 a5xf2 a5xf3 a5xl b5x0 b5x1 b5x2 b5x3 b5xf0 b5xf1 b5xf2 b5xf3 b5xl c5x0 c5x1 c5x2 c5x3 c5xf0 c5xf1 c5xf2 c5xf3 c5xl
    obtain ⟨a60, a61, a62, a63, a6f0, a6f1, a6f2, a6f3, a6l⟩ := box4 HA6.out
    obtain ⟨b60, b61, b62, b63, b6f0, b6f1, b6f2, b6f3, b6l⟩ := box4 HB6'.out
    obtain ⟨c6_0, c6_1, c6_2, c6_3, c6_f0, c6_f1, c6_f2, c6_f3, c6_l⟩ := box4 HC6.out
    clear h5 h6 hb4)
  have HX6 : Hid (Below w.heap.size w (w6.setCell ⟨s + 1 + 1, 2, none⟩ (.slice p6 nd c6))) := Lib.hid (HB6.out.setCell (show w.heap.size ≤ s + 1 + 1 by have := HSS.out; omega) _)
  have HXA6 : Hid ((w6.setCell ⟨s + 1 + 1, 2, none⟩ (.slice p6 nd c6)).heap[s]? = some (.cells #[.slice pw nw cw, .slice pk nk ck, .slice pd nd cd, .int .i64 entry] 48 (0, 0))) := Lib.hid (set_other HA6.out (by omega))
  have HXB6 : Hid ((w6.setCell ⟨s + 1 + 1, 2, none⟩ (.slice p6 nd c6)).heap[s + 1]? = some (.cells #[.slice none 0 0, .slice none 0 0, .slice none 0 0, .int .i64 0] 48 (0, 0))) := Lib.hid (set_other HB6'.out (by omega))
  have HXC6 : Hid ((w6.setCell ⟨s + 1 + 1, 2, none⟩ (.slice p6 nd c6)).heap[s + 1 + 1]? = some (.cells #[.slice p4 nw c4, .slice p5 nk c5, .slice p6 nd c6, .int .i64 entry] 48 (0, 0))) := Lib.hid (heap_setCell_same w6 (s + 1 + 1) 2 _ _ (.slice p6 nd c6) HC6.out)
  have HXS6 : Hid (s + 3 ≤ (w6.setCell ⟨s + 1 + 1, 2, none⟩ (.slice p6 nd c6)).heap.size) := Lib.hid (by have := HS6.out; simpa [World.setCell] using this)
  have HXW6 := Lib.hid (own_set (b := s + 1 + 1) (i := 2) (u := .slice p6 nd c6) HW6.out (by omega))
  have HXK6 := Lib.hid (own_set (b := s + 1 + 1) (i := 2) (u := .slice p6 nd c6) HK6.out (by have := HXS4.out; omega))
  have HXD6 := Lib.hid (own_set (b := s + 1 + 1) (i := 2) (u := .slice p6 nd c6) HD6.out (by have := HXS5.out; omega))
  clear a60 a61 a62 a63 a6f0 a6f1 a6f2 a6f3 a6l b60 b61 b62 b63 b6f0 b6f1 b6f2 b6f3 b6l c6_0 c6_1 c6_2 c6_3 c6_f0 c6_f1 c6_f2 c6_f3 c6_l
  generalize (w6.setCell ⟨s + 1 + 1, 2, none⟩ (.slice p6 nd c6)) = x6 at HX6 HXA6 HXB6 HXC6 HXS6 HXW6 HXK6 HXD6 ⊢
  obtain ⟨a6x0, a6x1, a6x2, a6x3, a6xf0, a6xf1, a6xf2, a6xf3, a6xl⟩ := box4 HXA6.out
  obtain ⟨b6x0, b6x1, b6x2, b6x3, b6xf0, b6xf1, b6xf2, b6xf3, b6xl⟩ := box4 HXB6.out
  obtain ⟨c6x0, c6x1, c6x2, c6x3, c6xf0, c6xf1, c6xf2, c6xf3, c6xl⟩ := box4 HXC6.out
  go_wp2
  refine bodyPost_ret (v := .agg #[.slice p4 nw c4, .slice p5 nk c5, .slice p6 nd c6, .int .i64 entry]) ?_ rfl ⟨_, _, _, rfl, ?_, ?_⟩
  · have e0 : ((((x6.setCell ⟨s + 1, 0, none⟩ (.slice p4 nw c4)).setCell ⟨s + 1, 1, none⟩ (.slice p5 nk c5)).setCell ⟨s + 1, 2, none⟩ (.slice p6 nd c6)).setCell ⟨s + 1, 3, none⟩ (.int .i64 entry)).heap[s + 1]? = some (.cells #[.slice p4 nw c4, .slice p5 nk c5, .slice p6 nd c6, .int .i64 entry] 48 (0, 0)) :=
      heap_setCell_same _ _ _ _ _ _ (heap_setCell_same _ _ _ _ _ _ (heap_setCell_same _ _ _ _ _ _ (heap_setCell_same _ _ _ _ _ _ HXB6.out)))
    obtain ⟨d0, d1, d2, d3, _⟩ := box4 e0
    simp [results, Tryd.results19, go_sem, d0, d1, d2, d3]
  · have hs9 := HSS.out
    have z4 := HXS4.out
    have z5 := HXS5.out
    have W := own_set (b := s + 1) (i := 3) (u := .int .i64 entry) (own_set (b := s + 1) (i := 2) (u := .slice p6 nd c6) (own_set (b := s + 1) (i := 1) (u := .slice p5 nk c5) (own_set (b := s + 1) (i := 0) (u := .slice p4 nw c4) HXW6.out (by omega)) (by omega)) (by omega)) (by omega)
    have K := own_set (b := s + 1) (i := 3) (u := .int .i64 entry) (own_set (b := s + 1) (i := 2) (u := .slice p6 nd c6) (own_set (b := s + 1) (i := 1) (u := .slice p5 nk c5) (own_set (b := s + 1) (i := 0) (u := .slice p4 nw c4) HXK6.out (by omega)) (by omega)) (by omega)) (by omega)
    have D := own_set (b := s + 1) (i := 3) (u := .int .i64 entry) (own_set (b := s + 1) (i := 2) (u := .slice p6 nd c6) (own_set (b := s + 1) (i := 1) (u := .slice p5 nk c5) (own_set (b := s + 1) (i := 0) (u := .slice p4 nw c4) HXD6.out (by omega)) (by omega)) (by omega)) (by omega)
    refine ImgOwn.mk ?_ ?_ ?_ (fun b hb e => ?_) (fun b hb e => ?_) (fun b hb e => ?_)
    · simp only
      rw [HXW.out, ← HNW.out]
      exact own_base W (by omega)
    · simp only
      rw [HXK.out, ← HNK.out]
      exact own_base K (by omega)
    · simp only
      rw [HXD.out, ← HND.out]
      exact own_base D (by omega)
    · have := HL5.out b hb
      have := (HXK6.out.lt b e).1
      omega
    · have := HL6.out b hb
      have := (HXD6.out.lt b e).1
      omega
    · have := HM6.out b hb
      have := (HXD6.out.lt b e).1
      omega
  · exact (((HX6.out.setCell (show w.heap.size ≤ s + 1 by have := HSS.out; omega) _).setCell (show w.heap.size ≤ s + 1 by have := HSS.out; omega) _).setCell (show w.heap.size ≤ s + 1 by have := HSS.out; omega) _).setCell (show w.heap.size ≤ s + 1 by have := HSS.out; omega) _
end Go.Proofs.YtopceggmdieppaaDoor.Emu
namespace Go.Proofs.YtopceggmdieppaaDoor.Emu
open Go.RowKit Go.Proofs.YtopceggmdieppaaDoor.Enc Go.Proofs.YtopceggmdieppaaDoor.Graph
theorem sl_len {w : World} {v : Value} {n sz : Nat} {P : Nat → Nat → Nat → Prop} (h : SlR w sz v n P) : n ≤ 9223372036854775807 := by
  rcases h with ⟨h, _⟩ | ⟨_, _, _, _, _, h, _⟩ <;> omega
theorem own_keep {w : World} {B : Nat} {e : TypeId} {size : Nat} {v : Value} {n : Nat} {xs : List Value} {b i : Nat} {u : Value} (h : w.ownsRow B e size v n xs) (hb : v.ownBlock ≠ some b) : (w.setCell ⟨b, i, none⟩ u).ownsRow B e size v n xs := by
  obtain ⟨h1, h2⟩ := h
  refine ⟨h1, ?_⟩
  rcases h2 with h2 | ⟨g, cap, cur, h3, h4, h5, h6⟩
  · exact .inl h2
  · refine .inr ⟨g, cap, cur, h3, h4, set_other h5 (fun e => hb ?_), h6⟩
    rw [h3, e]; rfl
theorem own_put {w : World} {B : Nat} {e : TypeId} {g n cap : Nat} {xs : List Value} (h : w.ownsRow B e 1 (.slice (some ⟨g, 0, none⟩) n cap) n xs) {k : Nat} (_hk : k < n) (u : Value) :
    (w.setCell ⟨g, k, none⟩ u).ownsRow B e 1 (.slice (some ⟨g, 0, none⟩) n cap) n (xs.set k u) := by
  obtain ⟨h1, ⟨h2, _⟩ | ⟨g2, cap2, cur, h3, h4, h5, h6, h7, h8, h9⟩⟩ := h
  · injection h2 with h2; cases h2
  · injection h3 with h3 _ h10
    injection h3 with h3
    injection h3 with h3 _ _
    subst h3 h10
    refine ⟨by rw [List.length_set]; exact h1, .inr ⟨g, cap, cur.setIfInBounds k u, rfl, h4, heap_setCell_same _ _ _ _ _ _ h5, h6, h7, ?_, ?_⟩⟩
    · rw [Array.size_setIfInBounds]; exact h8
    · rw [Array.toList_setIfInBounds, List.take_set, h9]
theorem own_at {w : World} {B : Nat} {e : TypeId} {g n cap : Nat} {xs : List Value} (h : w.ownsRow B e 1 (.slice (some ⟨g, 0, none⟩) n cap) n xs) {k : Nat} {u : Value} (hk : xs[k]? = some u) :
    w.cell? ⟨g, k, none⟩ = some u ∧ w.frozen? ⟨g, k, none⟩ = false ∧ B ≤ g ∧ g < w.heap.size ∧ n ≤ cap ∧ cap ≤ 9223372036854775807 := by
  obtain ⟨h1, ⟨h2, _⟩ | ⟨g2, cap2, cur, h3, h4, h5, h6, h7, h8, h9⟩⟩ := h
  · injection h2 with h2; cases h2
  · injection h3 with h3 _ h10
    injection h3 with h3
    injection h3 with h3 _ _
    subst h3 h10
    refine ⟨cell_of_block h5 ?_, by simp [World.frozen?, h5], h4, lt_of_block h5, h6, h7⟩
    rw [← h9, List.getElem?_take] at hk
    split at hk
    · rw [← Array.getElem?_toList]; exact hk
    · cases hk
theorem ImgOwn.setKind {w : World} {B : Nat} {m : Image} {vw vd : Value} {g n c : Nat} (h : ImgOwn w B m vw (.slice (some ⟨g, 0, none⟩) n c) vd) (hn : n = m.kinds.length) {k : Nat} (hk : k < n) (x : Int) :
    ImgOwn (w.setCell ⟨g, k, none⟩ (.int .i64 x)) B { m with kinds := m.kinds.set k x } vw (.slice (some ⟨g, 0, none⟩) n c) vd := by
  have hK := h.kinds
  rw [← hn] at hK
  refine ⟨own_keep h.words (fun e => h.wk _ e rfl), ?_, own_keep h.data (fun e => h.kd g rfl e), h.wk, h.wd, h.kd⟩
  have := own_put hK hk (iv x)
  simp only [List.length_set, List.map_set]
  rw [← hn]
  exact this
theorem ImgOwn.drew {w : World} {B : Nat} {m : Image} {vw vk vd : Value} (h : ImgOwn w B m vw vk vd) : ImgOwn w.drew B m vw vk vd := ⟨h.words, h.kinds, h.data, h.wk, h.wd, h.kd⟩
theorem run_no {ar : Int → Int → Int → Option Int} {hs : Int → Int → Int → Bool} {m : Image} {input : List UInt8} {fuel : Int} {o : Out} {er : Int} (h : runP ar hs m input fuel = (o, er)) (he : er ≠ 0) : o = noOut := by
  unfold runP at h
  split at h
  · split at h
    · split at h
      · simp only [Prod.mk.injEq] at h; exact absurd h.2.symm he
      · simp only [Prod.mk.injEq] at h; exact h.1.symm
    · simp only [Prod.mk.injEq] at h; exact h.1.symm
  · simp only [Prod.mk.injEq] at h; exact h.1.symm
theorem run_yes {ar : Int → Int → Int → Option Int} {hs : Int → Int → Int → Bool} {m : Image} {input : List UInt8} {fuel : Int} {o : Out} (h : runP ar hs m input fuel = (o, 0)) :
    mayI m = true ∧ input.length ≤ 10000 ∧ (0 ≤ fuel ∧ fuel ≤ 1073741824) ∧ o = outOf (runN ⟨m.words, input, ar, hs⟩ fuel.toNat (start ⟨m.words, input, ar, hs⟩ m.data m.entry)) := by
  unfold runP at h
  split at h
  · rename_i h1
    split at h
    · rename_i h2
      split at h
      · rename_i h3
        simp only [Prod.mk.injEq] at h; exact ⟨h1, h2, h3, h.1.symm⟩
      · simp only [Prod.mk.injEq] at h; exact absurd h.2 (by decide)
    · simp only [Prod.mk.injEq] at h; exact absurd h.2 (by decide)
  · simp only [Prod.mk.injEq] at h; exact absurd h.2 (by decide)
theorem may_parts {m : Image} (h : mayI m = true) : 1 ≤ m.words.length ∧ m.words.length ≤ 65536 ∧ m.kinds.length = m.words.length ∧ m.data.length ≤ 524288 ∧ (0 ≤ m.entry ∧ m.entry < m.words.length) ∧ ∀ k ∈ m.kinds, 1 ≤ k ∧ k ≤ 3 := by
  unfold mayI at h
  simp only [Bool.and_eq_true, decide_eq_true_eq, List.all_eq_true] at h
  exact ⟨h.1.1, h.1.2.1, h.1.2.2.1, h.1.2.2.2.1, ⟨h.1.2.2.2.2.1, h.1.2.2.2.2.2⟩, h.2⟩
theorem may_mk {m : Image} (h : 1 ≤ m.words.length ∧ m.words.length ≤ 65536 ∧ m.kinds.length = m.words.length ∧ m.data.length ≤ 524288 ∧ (0 ≤ m.entry ∧ m.entry < m.words.length) ∧ ∀ k ∈ m.kinds, 1 ≤ k ∧ k ≤ 3) : mayI m = true := by
  unfold mayI
  simp only [Bool.and_eq_true, decide_eq_true_eq, List.all_eq_true]
  exact ⟨⟨h.1, h.2.1, h.2.2.1, h.2.2.2.1, h.2.2.2.2.1.1, h.2.2.2.2.1.2⟩, h.2.2.2.2.2⟩
/-- Other kinds change nothing. -/
theorem run_kinds {ar : Int → Int → Int → Option Int} {hs : Int → Int → Int → Bool} {m : Image} {input : List UInt8} {fuel : Int} {o : Out} (h : runP ar hs m input fuel = (o, 0)) {ks : List Int} (h1 : ks.length = m.kinds.length) (h2 : ∀ k ∈ ks, 1 ≤ k ∧ k ≤ 3) :
    runP ar hs { m with kinds := ks } input fuel = (o, 0) := by
  obtain ⟨k1, k2, k3, k4⟩ := run_yes h
  obtain ⟨p1, p2, p3, p4, p5, _⟩ := may_parts k1
  have hm : mayI { m with kinds := ks } = true := may_mk ⟨p1, p2, by simp only; rw [h1]; exact p3, p4, p5, h2⟩
  unfold runP
  rw [if_pos hm, if_pos k2, if_pos k3, k4]
/-- Words behind all others change nothing of a run that exits. -/
theorem run_behind {ar : Int → Int → Int → Option Int} {hs : Int → Int → Int → Bool} {m : Image} {input : List UInt8} {fuel : Int} {o : Out} (h : runP ar hs m input fuel = (o, 0)) (ho : o.stop = 1) {ws : List Int} (hw : ws.length + m.words.length ≤ 65536) :
    runP ar hs ⟨m.words ++ ws, m.kinds ++ List.replicate ws.length 2, m.data, m.entry⟩ input fuel = (o, 0) := by
  obtain ⟨k1, k2, k3, k4⟩ := run_yes h
  obtain ⟨p1, p2, p3, p4, p5, p6⟩ := may_parts k1
  have hm : mayI ⟨m.words ++ ws, m.kinds ++ List.replicate ws.length 2, m.data, m.entry⟩ = true :=
    may_mk ⟨by simp only [List.length_append]; omega, by simp only [List.length_append]; omega, by simp only [List.length_append, List.length_replicate]; omega, p4, by simp only [List.length_append]; omega, fun k hk => by
      rcases List.mem_append.1 hk with h1 | h1
      · exact p6 k h1
      · have := List.eq_of_mem_replicate h1; omega⟩
  unfold runP
  rw [if_pos hm, if_pos k2, if_pos k3]
  have hst : (runN ⟨m.words, input, ar, hs⟩ fuel.toNat (start ⟨m.words, input, ar, hs⟩ m.data m.entry)).stop ≠ 2 := by
    intro e
    rw [k4] at ho
    unfold outOf at ho
    rw [if_neg (by rw [e]; decide)] at ho
    simp only at ho
    rw [e] at ho; cases ho
  have := runN_words ⟨m.words, input, ar, hs⟩ ws fuel.toNat _ hst
  rw [k4]
  show (outOf (runN (more ⟨m.words, input, ar, hs⟩ ws) fuel.toNat (start ⟨m.words, input, ar, hs⟩ m.data m.entry)), (0 : Int)) = _
  rw [this]
/-- Noughts behind the data change nothing. -/
theorem run_noughts {ar : Int → Int → Int → Option Int} {hs : Int → Int → Int → Bool} {m : Image} {input : List UInt8} {fuel : Int} {many : Nat} (hw : m.data.length + many ≤ 524288) :
    runP ar hs { m with data := m.data ++ List.replicate many 0 } input fuel = runP ar hs m input fuel := by
  have hm : mayI { m with data := m.data ++ List.replicate many 0 } = mayI m := by
    rw [Bool.eq_iff_iff]
    constructor
    · intro h
      obtain ⟨p1, p2, p3, p4, p5, p6⟩ := may_parts h
      exact may_mk ⟨p1, p2, p3, by omega, p5, p6⟩
    · intro h
      obtain ⟨p1, p2, p3, p4, p5, p6⟩ := may_parts h
      exact may_mk ⟨p1, p2, p3, by simp only [List.length_append, List.length_replicate]; omega, p5, p6⟩
  unfold runP
  rw [hm]
  simp only
  rw [start_noughts _ _ _ _ hw]
end Go.Proofs.YtopceggmdieppaaDoor.Emu
