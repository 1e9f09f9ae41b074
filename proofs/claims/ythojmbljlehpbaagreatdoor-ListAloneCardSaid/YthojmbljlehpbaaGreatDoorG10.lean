/- How many words a part makes; where parts begin: the program's own answers. -/
import Derived.Test.YthojmbljlehpbaaGreatDoorG09
import Derived.Deep.OwnRows
namespace Go.Proofs.YthojmbljlehpbaaGreatDoor.Relax
open Go.RowKit Go.Proofs.YthojmbljlehpbaaGreatDoor.Enc Go.Proofs.YthojmbljlehpbaaGreatDoor.Graph

def wdR (p : PP) (r : Int) : Int := if nearB r then p.short else p.short + p.more
def stR (ps : List PP) (r : Nat → Int) : Nat → Int
  | 0 => 0
  | k + 1 => stR ps r k + wdR (partAt ps k) (r k)
theorem wdR_bd {ps : List PP} (hw : WF ps) {k : Nat} (hk : k < ps.length) (r : Int) : 1 ≤ wdR (partAt ps k) r ∧ wdR (partAt ps k) r ≤ 404 := by
  have h1 := hw.short k hk
  have h2 := hw.more k hk
  unfold wdR
  split <;> omega
theorem stR_bd {ps : List PP} (hw : WF ps) (r : Nat → Int) : ∀ k, k ≤ ps.length → 0 ≤ stR ps r k ∧ stR ps r k ≤ 404 * k
  | 0, _ => by simp [stR]
  | k + 1, h => by
    have ih := stR_bd hw r k (by omega)
    have h1 := wdR_bd hw (k := k) (by omega) (r k)
    show 0 ≤ stR ps r k + _ ∧ stR ps r k + _ ≤ _
    omega
set_option maxHeartbeats 2000000 in
theorem words_prog (p : PP) (r : Int) (hb : 1 ≤ p.short ∧ p.short ≤ 402 ∧ 0 ≤ p.more ∧ p.more ≤ 2) (w : World) :
    Calls Tryz.prog 85 #[.agg #[.int .i64 p.line, .int .i64 p.short, .int .i64 p.more, .int .i64 p.to, .int .i64 r]] w (Is (.int .i64 (wdR p r)) w) := by
  obtain ⟨nr, hnr⟩ : ∃ nr, nearB r = nr := ⟨_, rfl⟩
  have HB := Lib.hid (fun w => hnr ▸ near_prog r w)
  have HE := Lib.hid hnr
  clear hnr
  obtain ⟨line, short, more, tt⟩ := p
  simp only at hb
  obtain ⟨b1, b2, b3, b4⟩ := hb
  cases nr
  · go_enter Tryz.func85, Tryz.ntmps85
    go_wp2_with (go_at_call 116; refine (HB.out _).mono ?_; rintro e w2 ⟨rfl, rfl⟩)
    go_ret
    exact ⟨Relax.ret_int (by unfold wdR; rw [if_neg (by rw [HE.out]; simp)]), below_one _ _⟩
  · go_enter Tryz.func85, Tryz.ntmps85
    go_wp2_with (go_at_call 116; refine (HB.out _).mono ?_; rintro e w2 ⟨rfl, rfl⟩)
    go_ret
    exact ⟨Relax.ret_int (by unfold wdR; rw [if_pos HE.out]), below_one _ _⟩
theorem keep_cell {w w' : World} (hb : Below w.heap.size w w') {b o : Nat} {v : Value} (hl : b < w.heap.size) (h : w.cell? ⟨b, o, none⟩ = some v) : w'.cell? ⟨b, o, none⟩ = some v := (hb.cell (p := ⟨b, o, none⟩) hl).trans h
theorem keep_frozen {w w' : World} (hb : Below w.heap.size w w') {b o : Nat} {v : Bool} (hl : b < w.heap.size) (h : w.frozen? ⟨b, o, none⟩ = v) : w'.frozen? ⟨b, o, none⟩ = v := (hb.frozen (p := ⟨b, o, none⟩) hl).trans h
theorem set_off {w : World} {b j k : Nat} {u v : Value} (h : j ≠ k) (hc : w.cell? ⟨b, k, none⟩ = some u) : (w.setCell ⟨b, j, none⟩ v).cell? ⟨b, k, none⟩ = some u :=
  (World.cell?_setCell_other _ _ _ _ (by simp [])).trans hc
theorem set_far {w : World} {b c j k : Nat} {u v : Value} (h : c ≠ b) (hc : w.cell? ⟨b, k, none⟩ = some u) : (w.setCell ⟨c, j, none⟩ v).cell? ⟨b, k, none⟩ = some u :=
  (World.cell?_setCell_other _ _ _ _ (by simp [])).trans hc
/-- A row of numbers, each told by its place. -/
abbrev RowI (w : World) (b n : Nat) (f : Nat → Int) : Prop := w.rowIs b 3 n (fun j => .int .i64 (f j))
def StartsPost (ps : List PP) (r : Nat → Int) (w : World) (e : Ending) (w' : World) : Prop :=
  e = .returned (.slice (some ⟨w.heap.size, 0, none⟩) (ps.length + 1) (ps.length + 1)) ∧ RowI w' w.heap.size (ps.length + 1) (stR ps r) ∧ Below w.heap.size w w'
theorem info_intA : (Tryz.prog.info? 3).map (fun i => (i.zero, i.size, i.bytes)) = some (some (.int .i64 0), 1, 8) := by kernel_rfl
/-- What is so far told of where parts begin. -/
def partly (ps : List PP) (r : Nat → Int) (k : Nat) : Nat → Int := fun j => if j ≤ k then stR ps r j else 0
set_option maxHeartbeats 8000000 in
set_option maxRecDepth 100000 in
theorem startsOf_prog (ps : List PP) (r : Nat → Int) (p : Option Addr) (c : Nat) (B : Nat) (w : World) (hw : WF ps) (hP : PartsR w B (.slice p ps.length c) ps r) :
    Calls Tryz.prog 51 #[.slice p ps.length c] w (StartsPost ps r w) := by
  have h6 := hw.size
  unfold StartsPost
  obtain ⟨n, hn⟩ : ∃ n, n = ps.length := ⟨_, rfl⟩
  rw [← hn] at h6 hP ⊢
  have HP := Lib.hid hP
  have HN := Lib.hid hn
  have HW := Lib.hid hw
  clear hP hn hw
  have m0 : (n : Int) ≤ 60000 := by omega
  have m1 : (0 : Int) ≤ n := by omega
  have hmk := run_make_row' (P := Tryz.prog) 35 3 _ 8 Tryz.underlying35 info_intA rfl .i64 .i64 (n + 1) (by omega) (by omega)
  have ec : ((n + 1 : Nat) : Int) = (n : Int) + 1 := by omega
  rw [ec] at hmk
  clear ec
  go_enter Tryz.func51, Tryz.ntmps51
  go_wp2
  go_loopw [12] (fun i wr => ∃ k : Nat, k ≤ n ∧ i = .int .i64 k ∧ Hid (RowI wr w.heap.size (n + 1) (partly ps r k)) ∧ w.heap.size < wr.heap.size ∧ Hid (Below w.heap.size w wr)) (fun i _ => n - (intOf i).toNat)
  case atStart =>
    refine ⟨0, Nat.zero_le _, rfl, Lib.hid ?_, by simp, Lib.hid (below_one _ _)⟩
    exact (World.rowIs_made w (.int .i64 0) (n + 1) 3).congr (fun j hj => by unfold partly; split; (have : j = 0 := by omega); subst this; rfl; rfl)
  case round =>
    obtain ⟨k, hk, rfl, HR, hsz, HB⟩ := hrel
    by_cases hlt : k < n
    · obtain ⟨g, rfl, hg1, hg2, hc1, hc2, c0, c1, c2, c3, c4, _⟩ := (HP.out.below HB.out).at_ (k := k) (by have := HN.out; omega)
      have r0 := HR.out.cell (i := k) (by omega)
      have r1 := HR.out.cell (i := k + 1) (by omega)
      have f1 := HR.out.frozen (k + 1)
      have hpk := HW.out.short k (by rw [← HN.out]; exact hlt)
      have hpm := HW.out.more k (by rw [← HN.out]; exact hlt)
      have hb0 := stR_bd HW.out r k (by rw [← HN.out]; omega)
      have hb1 := wdR_bd HW.out (k := k) (by rw [← HN.out]; exact hlt) (r k)
      have HST := Lib.hid (show stR ps r (k + 1) = stR ps r k + wdR (partAt ps k) (r k) from rfl)
      have e0 : partly ps r k k = stR ps r k := by unfold partly; rw [if_pos (Nat.le_refl _)]
      have e1 : partly ps r k (k + 1) = 0 := by unfold partly; rw [if_neg (by omega)]
      simp only [e0, e1] at r0 r1
      clear e0 e1
      generalize hq : partAt ps k = q at *
      obtain ⟨line, short, more, tt⟩ := q
      simp only at c0 c1 c2 c3 hpk hpm
      have HWD := Lib.hid (fun w => words_prog ⟨line, short, more, tt⟩ (r k) ⟨hpk.1, hpk.2, hpm.1, hpm.2⟩ w)
      have HQ := Lib.hid hq
      clear hq
      unfold Is at HWD
      simp only at HWD
      generalize wdR ⟨line, short, more, tt⟩ (r k) = wd at *
      generalize r k = rk at *
      generalize stR ps r k = st at *
      have i0 : (0 : Int) ≤ k := by omega
      have i1 : (k : Int) < n := by omega
      have i2 : IntKind.i64.wrap ((k : Int) + 1) = (k : Int) + 1 := IntWalk.i64_in _ (by omega)
      have i3 : ((k : Int) + 1).toNat = k + 1 := by omega
      have i4 : IntKind.i64.wrap (st + wd) = st + wd := IntWalk.i64_in _ (by omega)
      have i5 : (0 : Int) ≤ (k : Int) + 1 := by omega
      have i6 : (k : Int) + 1 < (n : Int) + 1 := by omega
      have i7 : (k : Int) < (n : Int) + 1 := by omega
      have hne : wr.heap.size ≠ w.heap.size := by omega
      have hne2 : w.heap.size ≠ wr.heap.size := by omega
      go_upto_region 5 with (fail)
      have hb1 := below_one wr (.cells #[.int .i64 line, .int .i64 short, .int .i64 more, .int .i64 tt, .int .i64 rk] 95)
      have y0 := keep_cell hb1 hsz r0
      have y1 := keep_cell hb1 hsz r1
      have y2 := keep_frozen hb1 hsz f1
      have d0 : (wr.alloc (.cells #[.int .i64 line, .int .i64 short, .int .i64 more, .int .i64 tt, .int .i64 rk] 95)).cell? ⟨wr.heap.size, 0, none⟩ = some (.int .i64 line) := by go_simp
      have d1 : (wr.alloc (.cells #[.int .i64 line, .int .i64 short, .int .i64 more, .int .i64 tt, .int .i64 rk] 95)).cell? ⟨wr.heap.size, 1, none⟩ = some (.int .i64 short) := by go_simp
      have d2 : (wr.alloc (.cells #[.int .i64 line, .int .i64 short, .int .i64 more, .int .i64 tt, .int .i64 rk] 95)).cell? ⟨wr.heap.size, 2, none⟩ = some (.int .i64 more) := by go_simp
      have d3 : (wr.alloc (.cells #[.int .i64 line, .int .i64 short, .int .i64 more, .int .i64 tt, .int .i64 rk] 95)).cell? ⟨wr.heap.size, 3, none⟩ = some (.int .i64 tt) := by go_simp
      have d4 : (wr.alloc (.cells #[.int .i64 line, .int .i64 short, .int .i64 more, .int .i64 tt, .int .i64 rk] 95)).cell? ⟨wr.heap.size, 4, none⟩ = some (.int .i64 rk) := by go_simp
      have hz1 : wr.heap.size < (wr.alloc (.cells #[.int .i64 line, .int .i64 short, .int .i64 more, .int .i64 tt, .int .i64 rk] 95)).heap.size := by simp
      have HB1 := Lib.hid hb1
      clear hb1 c0 c1 c2 c3 c4 r0 r1 f1 hmk
      have hz0 : w.heap.size < (wr.alloc (.cells #[.int .i64 line, .int .i64 short, .int .i64 more, .int .i64 tt, .int .i64 rk] 95)).heap.size := Nat.lt_trans hsz hz1
      generalize (wr.alloc (.cells #[.int .i64 line, .int .i64 short, .int .i64 more, .int .i64 tt, .int .i64 rk] 95)) = W at y0 y1 y2 d0 d1 d2 d3 d4 hz1 hz0 HB1 ⊢
      generalize wr.heap.size = B1 at d0 d1 d2 d3 d4 hz1 hne hne2 ⊢
      go_region_held3 (fun w' => w'.cell? ⟨w.heap.size, k, none⟩ = some (.int .i64 st) ∧ w'.cell? ⟨B1, 0, none⟩ = some (.int .i64 line) ∧ w'.cell? ⟨B1, 1, none⟩ = some (.int .i64 short) ∧ w'.cell? ⟨B1, 2, none⟩ = some (.int .i64 more) ∧ w'.cell? ⟨B1, 3, none⟩ = some (.int .i64 tt) ∧ w'.cell? ⟨B1, 4, none⟩ = some (.int .i64 rk)) (first | exact ⟨set_off (by omega) x0, set_far hne2 x3, set_far hne2 x4, set_far hne2 x5, set_far hne2 x6, set_far hne2 x7⟩ | exact ⟨x0, x3, x4, x5, x6, x7⟩ | exact ⟨y0, d0, d1, d2, d3, d4⟩ | go_keep)
        (first | (go_at_call 85; refine (HWD.out _).mono ?_; rintro e w3 ⟨rfl, hb⟩; have x0 := keep_cell hb hz0 y0; have x1 := keep_cell hb hz0 y1; have x2 := keep_frozen hb hz0 y2; have x3 := keep_cell hb hz1 d0; have x4 := keep_cell hb hz1 d1; have x5 := keep_cell hb hz1 d2; have x6 := keep_cell hb hz1 d3; have x7 := keep_cell hb hz1 d4; have H2 := Lib.hid hb; have hz3 := hb.size; clear hb))
      go_wp2
      go_roundw
      case rel =>
        refine ⟨k + 1, by omega, by go_num, Lib.hid ?_, by first | exact Nat.lt_of_lt_of_le hz0 hz3 | (simp; exact Nat.lt_of_lt_of_le hz0 hz3), Lib.hid ((bt HB.out (bt HB1.out.drew H2.out)).setCell (by simp) _)⟩
        refine (((rowIs_below (rowIs_below HR.out HB1.out.drew) H2.out).set (k + 1) (.int .i64 (st + wd)))).congr (fun j hj => ?_)
        unfold partly
        by_cases h1 : j = k + 1
        · rw [if_pos h1, if_pos (by omega), h1, HST.out]
        · rw [if_neg h1]
          by_cases h2 : j ≤ k
          · rw [if_pos h2, if_pos (by omega)]
          · rw [if_neg h2, if_neg (by omega)]
      case measure => simp [intOf]; omega
    · have hkn : k = n := by omega
      subst hkn
      have i1 : ¬ ((k : Int) < (k : Int)) := by omega
      go_wp2
      go_ret
      exact ⟨rfl, HR.out.congr (fun j hj => by unfold partly; rw [if_pos (by omega)]), HB.out⟩
end Go.Proofs.YthojmbljlehpbaaGreatDoor.Relax
namespace Go.Proofs.YthojmbljlehpbaaGreatDoor.Relax
open Go.RowKit Go.Proofs.YthojmbljlehpbaaGreatDoor.Enc Go.Proofs.YthojmbljlehpbaaGreatDoor.Graph

/-- A row of numbers of one's own. -/
def natVs (F : List Nat) : List Value := F.map fun (n : Nat) => Value.int .i64 (n : Int)
def NatsR (w : World) (B : Nat) (v : Value) (F : List Nat) : Prop := w.ownsRow B 3 1 v F.length (natVs F)
theorem NatsR.below {w w' : World} {B : Nat} {v : Value} {F : List Nat} (h : NatsR w B v F) (hb : Below w.heap.size w w') : NatsR w' B v F :=
  World.ownsRow.kept (row := none) h ⟨hb.os, hb.tape, hb.output, hb.size, fun i hi _ => hb.block i hi⟩ (by cases v.ownBlock <;> simp)
theorem NatsR.form {w : World} {B : Nat} {v : Value} {F : List Nat} (h : NatsR w B v F) : ∃ p c, v = .slice p F.length c := by
  obtain ⟨_, ⟨rfl, h⟩ | ⟨g, cap, cur, rfl, _⟩⟩ := h
  · exact ⟨none, 0, by rw [h]⟩
  · exact ⟨_, _, rfl⟩
theorem NatsR.at_ {w : World} {B n c : Nat} {p : Option Addr} {F : List Nat} (h : NatsR w B (.slice p n c) F) {k : Nat} (hk : k < F.length) :
    ∃ g x, p = some ⟨g, 0, none⟩ ∧ F[k]? = some x ∧ B ≤ g ∧ g < w.heap.size ∧ F.length ≤ c ∧ c ≤ 9223372036854775807 ∧ w.cell? ⟨g, k, none⟩ = some (.int .i64 (x : Int)) := by
  obtain ⟨g, cap, h1, h2, h3, h4, h5, h6⟩ := row_at h (by omega)
  injection h1 with h1 h7 h8
  subst h1 h8
  obtain ⟨x, hx⟩ : ∃ x, F[k]? = some x := ⟨_, List.getElem?_eq_getElem hk⟩
  exact ⟨g, x, rfl, hx, h2, h5, h3, h4, h6 _ _ (by unfold natVs; rw [List.getElem?_map, hx]; rfl)⟩
theorem one_news {w : World} {b : Nat} {x : Value} (h0 : w.cell? ⟨b, 0, none⟩ = some x) : ∀ j u, [x][j]? = some u → w.cell? ((⟨b, 0, none⟩ : Addr).add j) = some u := fun j u hu => by
  rw [Go.WideShapes.add_plain, Nat.zero_add]
  match j, hu with
  | 0, hu => injection hu with hu; subst hu; exact h0
  | j + 1, hu => simp at hu
/-- A number appended. -/
theorem wpList_append_nat {w : World} {ops : Array Oper} {rest : List Oper} {o : Oper} {a : Act} {Q : Exit → Act → World → Prop} (hgd : o.guard = none) (s x : Operand)
    (ho : o.op = .call { callee := .builtin .append, args := #[s, x], argTypes := #[35, 35] }) (B : Nat) (v : Value) (F : List Nat) (q : Nat) (hs : a.eval s = v)
    (hown : NatsR w B v F) (ad : Addr) (c : Nat) (hx : a.eval x = .slice (some ad) 1 c)
    (hnews : ∀ j u, [Value.int .i64 (q : Int)][j]? = some u → w.cell? (ad.add j) = some u) (h64 : F.length ≤ 1000000) (hB : B ≤ w.heap.size)
    (h : ∀ v' w', NatsR w' B v' (F ++ [q]) → Below B w w' → w.grownBy w' v.ownBlock → wpList Tryz.prog ops Q rest (a.put o.dst v') w') : wpList Tryz.prog ops Q (o :: rest) a w := by
  obtain ⟨i0, HI, hz0, hz1, hz2⟩ := info_parts info_intA
  refine wpList_append_own_wide w hgd s x 35 ho B 3 i0 _ 1 8 Tryz.underlying35 HI hz0 hz1 hz2 rfl (by omega) v F.length (natVs F) hs hown ad 1 c [.int .i64 (q : Int)] hx rfl hnews (fun u hu => ?_) (by unfold maxLen; omega) (by omega) hB ?_
  · have : u = .int .i64 (q : Int) := by simpa using hu
    subst this; rfl
  · intro v' w' h2 h3 _
    refine h v' w' ?_ (Below.grown (Below.refl _ _) h3 hB (fun k hk => (hown.lt k hk).1)) h3
    unfold NatsR
    rw [List.length_append]
    have e : natVs (F ++ [q]) = natVs F ++ [.int .i64 (q : Int)] := by unfold natVs; rw [List.map_append]; rfl
    rw [e]; exact h2
theorem stR_none (ps : List PP) : ∀ k, stR ps (fun _ => 0) k = stS ps [] k
  | 0 => rfl
  | k + 1 => by
    show stR ps (fun _ => 0) k + wdR (partAt ps k) 0 = stS ps [] k + wdS ps [] k
    rw [stR_none ps k]
    unfold wdR wdS
    rw [if_pos (by rfl)]; simp
/-- The reaches when so many were worked out; which of these are far. -/
def measR (ps : List PP) (k : Nat) : Nat → Int := fun j => if j < k ∧ (partAt ps j).more ≠ 0 then dispS ps [] j else 0
def farN (ps : List PP) : Nat → List Nat
  | 0 => []
  | k + 1 => farN ps k ++ (if (partAt ps k).more ≠ 0 ∧ nearB (dispS ps [] k) = false then [k] else [])
theorem farN_len (ps : List PP) : ∀ k, (farN ps k).length ≤ k
  | 0 => Nat.le_refl _
  | k + 1 => by
    have := farN_len ps k
    show (farN ps k ++ _).length ≤ _
    rw [List.length_append]
    split <;> simp <;> omega
theorem farN_mem (ps : List PP) (i : Nat) : ∀ k, i ∈ farN ps k ↔ i < k ∧ (partAt ps i).more ≠ 0 ∧ nearB (dispS ps [] i) = false
  | 0 => by simp [farN]
  | k + 1 => by
    show i ∈ farN ps k ++ _ ↔ _
    rw [List.mem_append, farN_mem ps i k]
    constructor
    · rintro (h | h)
      · exact ⟨by omega, h.2⟩
      · split at h
        · rename_i h2
          have : i = k := by simpa using h
          subst this
          exact ⟨by omega, h2⟩
        · cases h
    · rintro ⟨h1, h2⟩
      rcases Nat.lt_or_ge i k with h3 | h3
      · exact .inl ⟨h3, h2⟩
      · obtain rfl : i = k := by omega
        right; rw [if_pos h2]; simp
theorem farN_nodup (ps : List PP) : ∀ k, (farN ps k).Nodup
  | 0 => List.nodup_nil
  | k + 1 => by
    show (farN ps k ++ _).Nodup
    rw [List.nodup_append]
    refine ⟨farN_nodup ps k, by split <;> simp, fun a ha b hb => ?_⟩
    have h1 := ((farN_mem ps a k).1 ha).1
    split at hb
    · have : b = k := by simpa using hb
      omega
    · cases hb
theorem meas_ri {ps : List PP} (hw : WF ps) : RS ps [] (farN ps ps.length) (measR ps ps.length) := by
  refine ⟨⟨fun i hi hm => ?_, fun i hi hm hW => ?_, fun i hi hm hW => ?_, fun i hi => ?_⟩, by simpa using farN_nodup ps _, fun i => ?_⟩
  · unfold measR; rw [if_neg (by simp [hm])]
  · unfold measR; rw [if_pos ⟨hi, hm⟩]
  · unfold measR
    rw [if_pos ⟨hi, hm⟩]
    have := not_inW hw [] hi hm hW
    unfold nearB at this
    simp only [decide_eq_false_iff_not] at this
    refine ⟨fun h => ?_, fun h => ?_⟩
    · have := disp_fwd hw [] hi hm h; omega
    · have := disp_bwd hw [] hi hm h; omega
  · unfold measR
    simp only [List.length_nil]
    split
    · rename_i h
      by_cases h1 : (i : Int) < (partAt ps i).to
      · have := disp_fwd hw [] hi h.2 h1; omega
      · have := disp_bwd hw [] hi h.2 (by omega); omega
    · omega
  · rw [List.nil_append, farN_mem]
    constructor
    · rintro ⟨h1, h2, h3⟩
      exact ⟨h1, h2, by unfold measR; rw [if_pos ⟨h1, h2⟩]; exact h3⟩
    · rintro ⟨h1, h2, h3⟩
      unfold measR at h3
      rw [if_pos ⟨h1, h2⟩] at h3
      exact ⟨h1, h2, h3⟩
theorem meas_turn {ps : List PP} {k : Nat} (hm : (partAt ps k).more ≠ 0) : measR ps (k + 1) = turnR (measR ps k) k (dispS ps [] k) := by
  funext j
  unfold turnR measR
  by_cases h : j = k
  · subst h; rw [if_pos rfl, if_pos ⟨by omega, hm⟩]
  · rw [if_neg h]
    by_cases h1 : j < k ∧ (partAt ps j).more ≠ 0
    · rw [if_pos h1, if_pos ⟨by omega, h1.2⟩]
    · rw [if_neg h1, if_neg (fun h2 => h1 ⟨by omega, h2.2⟩)]
theorem meas_stay {ps : List PP} {k : Nat} (hm : (partAt ps k).more = 0) : measR ps (k + 1) = measR ps k := by
  funext j
  unfold measR
  by_cases h1 : j < k ∧ (partAt ps j).more ≠ 0
  · rw [if_pos h1, if_pos ⟨by omega, h1.2⟩]
  · rw [if_neg h1, if_neg (fun h2 => h1 ⟨by
      rcases Nat.lt_or_ge j k with h3 | h3
      · exact h3
      · have : j = k := by omega
        subst this; exact absurd hm h2.2, h2.2⟩)]
def MeasPost (ps : List PP) (B : Nat) (v : Value) (w : World) (e : Ending) (w' : World) : Prop :=
  ∃ vf F r, e = .returned vf ∧ RS ps [] F r ∧ PartsR w' B v ps r ∧ NatsR w' w.heap.size vf F ∧ Below B w w'
end Go.Proofs.YthojmbljlehpbaaGreatDoor.Relax
namespace Go.Proofs.YthojmbljlehpbaaGreatDoor.Relax
open Go.RowKit Go.Proofs.YthojmbljlehpbaaGreatDoor.Enc Go.Proofs.YthojmbljlehpbaaGreatDoor.Graph

theorem NatsR.setOther {w : World} {B g o : Nat} {v u : Value} {F : List Nat} (h : NatsR w B v F) (hg : g < B) : NatsR (w.setCell ⟨g, o, none⟩ u) B v F :=
  World.ownsRow.kept (row := some g) h ⟨rfl, rfl, rfl, by simp, fun k _ hk => Below.heap_setCell _ _ _ _ (fun e => hk (by rw [e]))⟩ (by
    cases hv : v.ownBlock with
    | none => exact .inl rfl
    | some q => right; intro e; injection e with e; subst e; have := (h.lt q hv).1; omega)
theorem row_set {w : World} {b n g o : Nat} {f : Nat → Int} {u : Value} (h : RowI w b n f) (hg : b ≠ g) : RowI (w.setCell ⟨g, o, none⟩ u) b n f := h.setOther (by exact hg) _
theorem set_kept {w : World} {b c j k : Nat} {u v : Value} (h : c ≠ b ∨ j ≠ k) (hc : w.cell? ⟨b, k, none⟩ = some u) : (w.setCell ⟨c, j, none⟩ v).cell? ⟨b, k, none⟩ = some u :=
  (World.cell?_setCell_other _ _ _ _ (by rcases h with h | h <;> simp [h])).trans hc
theorem own_block {w w' : World} {B : Nat} {e : TypeId} {sz g n n' c : Nat} {xs : List Value} (h : w.ownsRow B e sz (.slice (some ⟨g, 0, none⟩) n c) n' xs) (hb : w'.heap[g]? = w.heap[g]?) : w'.ownsRow B e sz (.slice (some ⟨g, 0, none⟩) n c) n' xs := by
  obtain ⟨h1, ⟨h2, _⟩ | ⟨g', cap, cur, h2, h3, h4, h5⟩⟩ := h
  · cases h2
  · injection h2 with h2 h6 h7
    injection h2 with h2
    injection h2 with h2 _
    subst h2 h6 h7
    exact ⟨h1, .inr ⟨g, c, cur, rfl, h3, hb.trans h4, h5⟩⟩
theorem own_mono {w : World} {B B' : Nat} {e : TypeId} {sz n : Nat} {v : Value} {xs : List Value} (h : w.ownsRow B e sz v n xs) (hb : B' ≤ B) : w.ownsRow B' e sz v n xs := by
  obtain ⟨h1, h2 | ⟨g', cap, cur, h2, h3, h4⟩⟩ := h
  · exact ⟨h1, .inl h2⟩
  · exact ⟨h1, .inr ⟨g', cap, cur, h2, by omega, h4⟩⟩
set_option maxHeartbeats 8000000 in
set_option maxRecDepth 100000 in
theorem measure_prog (ps : List PP) (p : Option Addr) (c : Nat) (B : Nat) (w : World) (hw : WF ps) (hP : PartsR w B (.slice p ps.length c) ps (fun _ => 0)) (hB : B ≤ w.heap.size) :
    Calls Tryz.prog 83 #[.slice p ps.length c] w (MeasPost ps B (.slice p ps.length c) w) := by
  have h6 := hw.size
  have HST := Lib.hid (fun w hP => startsOf_prog ps (fun _ => 0) p c B w hw hP)
  unfold StartsPost at HST
  obtain ⟨n, hn⟩ : ∃ n, n = ps.length := ⟨_, rfl⟩
  rw [← hn] at h6 hP HST ⊢
  have HP := Lib.hid hP
  have HN := Lib.hid hn
  have HW := Lib.hid hw
  have HBW := Lib.hid hB
  clear hP hn hw hB
  have m0 : (n : Int) ≤ 60000 := by omega
  have m1 : (0 : Int) ≤ n := by omega
  go_enter Tryz.func83, Tryz.ntmps83
  go_wp2_with (go_at_call 51; refine (HST.out _ HP.out).mono ?_; rintro e w2 ⟨rfl, hr, hb⟩; have HR2 := Lib.hid hr; have hz2 := hr.lt; have HB2 := Lib.hid hb; clear hr hb)
  go_loopw [4, 11] (fun vf i wr => ∃ k : Nat, k ≤ n ∧ i = .int .i64 k ∧ Hid (PartsR wr B (.slice p n c) ps (measR ps k)) ∧ Hid (NatsR wr w2.heap.size vf (farN ps k)) ∧ Hid (RowI wr w.heap.size (n + 1) (stS ps [])) ∧ Hid (Below B w wr) ∧ w2.heap.size ≤ wr.heap.size) (fun _ i _ => n - (intOf i).toNat)
  case atStart =>
    refine ⟨0, Nat.zero_le _, rfl, Lib.hid ?_, Lib.hid (World.ownsRow_nil _ _ _ _), Lib.hid (HR2.out.congr fun j _ => by rw [stR_none]), Lib.hid (HB2.out.mono HBW.out), Nat.le_refl _⟩
    have : measR ps 0 = fun _ => 0 := by funext j; unfold measR; rw [if_neg (by omega)]
    rw [this]; exact HP.out.below HB2.out
  case round =>
    obtain ⟨k, hk, rfl, HPR, HF, HR, HB, hsz⟩ := hrel
    by_cases hlt : k < n
    · have hkl : k < ps.length := by have := HN.out; omega
      have HL := Lib.hid hkl
      have hg0 : ∀ g, p = some ⟨g, 0, none⟩ → g < w.heap.size := fun g hg => by
        obtain ⟨g', h1, _, h2, _⟩ := HP.out.at_ hkl
        rw [hg] at h1; injection h1 with h1; injection h1 with h1 _; omega
      obtain ⟨g, rfl, hg1, hg2, hc1, hc2, c0, c1, c2, c3, c4, f4⟩ := HPR.out.at_ hkl
      have hg3 := hg0 g rfl
      have i0 : (0 : Int) ≤ k := by omega
      have i1 : (k : Int) < n := by omega
      have hfl := farN_len ps k
      have hmt := HW.out.to k hkl
      have HM0 := Lib.hid (fun h => meas_stay (ps := ps) (k := k) h)
      have HM1 := Lib.hid (fun h => meas_turn (ps := ps) (k := k) h)
      have HFE := Lib.hid (show farN ps (k + 1) = farN ps k ++ (if (partAt ps k).more ≠ 0 ∧ nearB (dispS ps [] k) = false then [k] else []) from rfl)
      have HD := Lib.hid (show dispS ps [] k = stS ps [] (partAt ps k).to.toNat - stS ps [] (k + 1) from rfl)
      have hbd1 := stS_bd HW.out [] (k := k + 1) (by have := HN.out; omega)
      have hbd2 := fun h => stS_bd HW.out [] (k := (partAt ps k).to.toNat) h
      clear hg0
      rw [← HN.out] at hmt hc1 hbd2
      have r1 := HR.out.cell (i := k + 1) (by omega)
      generalize hq : partAt ps k = q at *
      obtain ⟨line, short, more, tt⟩ := q
      simp only at c0 c1 c2 c3 hmt HM0 HM1 HFE HD hbd2
      have HQ := Lib.hid hq
      clear hq hkl
      by_cases hmr : more = 0
      · have g1 : (more == 0) = true := by simpa using hmr
        have HMM := Lib.hid hmr
        clear hmr hmt hbd1 hbd2 r1 hfl
        go_wp2
        go_roundw
        case rel =>
          exact ⟨k + 1, by omega, by go_num, Lib.hid (by rw [HM0.out HMM.out]; exact HPR.out), Lib.hid (by rw [HFE.out, if_neg (fun h => h.1 HMM.out), List.append_nil]; exact HF.out), HR, HB, hsz⟩
        case measure => simp [intOf]; omega
      obtain ⟨ht1, ht2⟩ := hmt hmr
      obtain ⟨T, rfl⟩ : ∃ T : Nat, tt = (T : Int) := ⟨tt.toNat, by omega⟩
      rw [Int.toNat_natCast] at hbd2 HD
      have hbd3 := hbd2 (by omega)
      have r2 := HR.out.cell (i := T) (by omega)
      have HMM := Lib.hid hmr
      have g1 : (more == 0) = false := by simpa using hmr
      clear hmr hmt hbd2
      generalize stS ps [] (k + 1) = s1 at *
      generalize stS ps [] T = s2 at *
      generalize hdq : dispS ps [] k = d at *
      have HDQ := Lib.hid hdq
      clear hdq
      have i2 : IntKind.i64.wrap ((k : Int) + 1) = (k : Int) + 1 := IntWalk.i64_in _ (by omega)
      have i3 : ((k : Int) + 1).toNat = k + 1 := by omega
      have i4 : IntKind.i64.wrap (s2 - s1) = d := by rw [HD.out]; exact IntWalk.i64_in _ (by omega)
      have i5 : (0 : Int) ≤ (k : Int) + 1 := by omega
      have i6 : (k : Int) + 1 < (n : Int) + 1 := by omega
      have i7 : (0 : Int) ≤ (T : Int) := by omega
      have i8 : (T : Int) < (n : Int) + 1 := by omega
      obtain ⟨nd, hnd⟩ : ∃ nd, nearB d = nd := ⟨_, rfl⟩
      have HNE := Lib.hid (fun w => hnd ▸ near_prog d w)
      have HND := Lib.hid hnd
      clear hnd
      have hgz : g < w2.heap.size := by omega
      have HP2 := Lib.hid (HPR.out.stored HN.out k d)
      have HF2 := Lib.hid (HF.out.setOther (g := g) (o := k * 5 + 4) (u := .int .i64 d) hgz)
      have HR2 := Lib.hid (row_set (o := k * 5 + 4) (u := .int .i64 d) HR.out (by omega : w.heap.size ≠ g))
      have HB2 := Lib.hid (HB.out.setCell (p := ⟨g, k * 5 + 4, none⟩) hg1 (.int .i64 d))
      go_upto_region 8 with (fail)
      go_region
      cases nd
      · go_wp2_with (first
          | (go_at_call 116; refine (HNE.out _).mono ?_; rintro e w3 ⟨rfl, rfl⟩)
          | (at_builtin; refine wpList_append_nat rfl (.tmp 44) (.tmp 46) rfl w2.heap.size _ (farN ps k) k rfl (HF2.out.below (by first | exact (below_one _ _).drew | exact below_one _ _)) ⟨wr.heap.size, 0, none⟩ 1 rfl (one_news (by go_simp)) (by omega) (by simp <;> omega) ?_; intro v' w' h1 h2 h3; have H1 := Lib.hid h1; have H2 := Lib.hid h2; clear h1 h2 h3))
        go_roundw
        case rel =>
          have hs2 := H2.out.size
          refine ⟨k + 1, by omega, by go_num, Lib.hid ?_, Lib.hid ?_, Lib.hid ?_, Lib.hid ?_, ?_⟩
          · rw [HM1.out HMM.out]
            exact own_block HP2.out ((H2.out.block g hgz).trans (Below.heap_alloc _ _ _ (by simp <;> omega)))
          · rw [HFE.out, if_pos ⟨HMM.out, HND.out⟩]; exact H1.out
          · exact (HR2.out.alloc _).of_block (H2.out.block _ hz2)
          · exact (HB2.out.alloc (by have := HBW.out; simp <;> omega) _).drew.trans (H2.out.mono (by omega))
          · simp at hs2; omega
        case measure => simp [intOf]; omega
      · go_wp2_with (go_at_call 116; refine (HNE.out _).mono ?_; rintro e w3 ⟨rfl, rfl⟩)
        go_roundw
        case rel =>
          refine ⟨k + 1, by omega, by go_num, Lib.hid ?_, Lib.hid ?_, HR2, Lib.hid HB2.out.drew, ?_⟩
          · rw [HM1.out HMM.out]; exact HP2.out
          · rw [HFE.out, if_neg (fun h => by rw [HND.out] at h; cases h.2), List.append_nil]; exact HF2.out
          · simp; omega
        case measure => simp [intOf]; omega
    · have hkn : k = n := by omega
      subst hkn
      have i1 : ¬ ((k : Int) < (k : Int)) := by omega
      go_wp2
      go_ret
      refine ⟨_, _, _, rfl, meas_ri HW.out, by rw [← HN.out]; exact HPR.out, ?_, HB.out⟩
      rw [← HN.out]
      exact own_mono HF.out (by omega)
end Go.Proofs.YthojmbljlehpbaaGreatDoor.Relax
namespace Go.Proofs.YthojmbljlehpbaaGreatDoor.Relax
open Go.RowKit Go.Proofs.YthojmbljlehpbaaGreatDoor.Enc Go.Proofs.YthojmbljlehpbaaGreatDoor.Graph

def pushV (more tt i l : Int) : Int := if more = 0 then 0 else if i < l ∧ l < tt then 1 else if tt ≤ l ∧ l ≤ i then -1 else 0
theorem pushV_is (ps : List PP) (i l : Nat) : pushP ps i l = pushV (partAt ps i).more (partAt ps i).to i l := by
  unfold pushP pushV
  by_cases h : (partAt ps i).more = 0
  · rw [if_pos h, if_pos h]
  · rw [if_neg h, if_neg h]
    (repeat' split) <;> omega
set_option maxHeartbeats 4000000 in
theorem pushed_prog (g o : Nat) (more tt i l : Int) (w : World) (_hl : g < w.heap.size) (c2 : w.cell? ⟨g, o + 2, none⟩ = some (.int .i64 more)) (c3 : w.cell? ⟨g, o + 3, none⟩ = some (.int .i64 tt)) :
    Calls Tryz.prog 117 #[.pointer (some ⟨g, o, none⟩), .int .i64 i, .int .i64 l] w fun e w' => e = .returned (.int .i64 (pushV more tt i l)) ∧ w' = w := by
  by_cases hm : more = 0
  · have HE := Lib.hid (show pushV more tt i l = 0 by unfold pushV; rw [if_pos hm])
    have g1 : (more == 0) = true := by simpa using hm
    clear hm
    go_enter Tryz.func117, Tryz.ntmps117
    go_wp2
    go_ret
    exact ⟨Relax.ret_int HE.out.symm, rfl⟩
  have g1 : (more == 0) = false := by simpa using hm
  by_cases h1 : i < l ∧ l < tt
  · have HE := Lib.hid (show pushV more tt i l = 1 by unfold pushV; rw [if_neg hm, if_pos h1])
    obtain ⟨a1, a2⟩ := h1
    have d1 : decide (i < l) = true := by simpa using a1
    have d2 : decide (l < tt) = true := by simpa using a2
    clear hm a1 a2
    go_enter Tryz.func117, Tryz.ntmps117
    go_wp2
    go_ret
    exact ⟨Relax.ret_int HE.out.symm, rfl⟩
  by_cases h2 : tt ≤ l ∧ l ≤ i
  · have HE := Lib.hid (show pushV more tt i l = -1 by unfold pushV; rw [if_neg hm, if_neg h1, if_pos h2])
    obtain ⟨a1, a2⟩ := h2
    have d1 : decide (i < l) = false := by simp; omega
    have d2 : decide (tt ≤ l) = true := by simpa using a1
    have d3 : decide (l ≤ i) = true := by simpa using a2
    clear hm a1 a2 h1
    go_enter Tryz.func117, Tryz.ntmps117
    go_wp2
    go_ret
    exact ⟨Relax.ret_int HE.out.symm, rfl⟩
  have HE := Lib.hid (show pushV more tt i l = 0 by unfold pushV; rw [if_neg hm, if_neg h1, if_neg h2])
  clear hm
  by_cases a1 : i < l
  · have a2 : ¬ l < tt := fun h => h1 ⟨a1, h⟩
    have d1 : decide (i < l) = true := by simpa using a1
    have d2 : decide (l < tt) = false := by simpa using a2
    by_cases a3 : tt ≤ l
    · have d3 : decide (tt ≤ l) = true := by simpa using a3
      have d4 : decide (l ≤ i) = false := by simp; omega
      clear a1 a2 a3 h1 h2
      go_enter Tryz.func117, Tryz.ntmps117
      go_wp2
      go_ret
      exact ⟨Relax.ret_int HE.out.symm, rfl⟩
    · omega
  · have d1 : decide (i < l) = false := by simpa using a1
    have d2 : decide (tt ≤ l) = false := by
      simp only [decide_eq_false_iff_not]
      exact fun h => h2 ⟨h, by omega⟩
    clear a1 h1 h2
    go_enter Tryz.func117, Tryz.ntmps117
    go_wp2
    go_ret
    exact ⟨Relax.ret_int HE.out.symm, rfl⟩
theorem nodup_lt : ∀ (n : Nat) (F : List Nat), F.Nodup → (∀ i ∈ F, i < n) → F.length ≤ n
  | 0, F, _, h => by
    cases F with
    | nil => simp
    | cons a F => have := h a (by simp); omega
  | n + 1, F, hd, h => by
    by_cases hn : n ∈ F
    · have h1 := nodup_lt n (F.erase n) (hd.erase n) (fun i hi => by
        have h2 := h i (List.mem_of_mem_erase hi)
        have h3 : i ≠ n := fun e => by subst e; exact (hd.not_mem_erase) hi
        omega)
      rw [List.length_erase_of_mem hn] at h1
      omega
    · have := nodup_lt n F hd (fun i hi => by
        have h2 := h i hi
        have h3 : i ≠ n := fun e => by subst e; exact hn hi
        omega)
      omega
/-- Those that have become far since. -/
structure FarOf (n : Nat) (r r' : Nat → Int) (F : List Nat) : Prop where
  mem : ∀ i, i ∈ F ↔ i < n ∧ nearB (r i) = true ∧ nearB (r' i) = false
  nd : F.Nodup
  stay : ∀ i, i < n → nearB (r i) = false → nearB (r' i) = false
theorem FarOf.len {n : Nat} {r r' : Nat → Int} {F : List Nat} (h : FarOf n r r' F) : F.length ≤ n := nodup_lt n F h.nd (fun i hi => ((h.mem i).1 hi).1)
theorem FarOf.refl (n : Nat) (r : Nat → Int) : FarOf n r r [] := ⟨fun i => by simp, List.nodup_nil, fun _ _ h => h⟩
theorem FarOf.same {n : Nat} {r r' : Nat → Int} {F : List Nat} (h : FarOf n r r' F) {j : Nat} {v : Int} (he : nearB v = nearB (r' j)) : FarOf n r (turnR r' j v) F := by
  have e : ∀ i, nearB (turnR r' j v i) = nearB (r' i) := fun i => by
    unfold turnR
    by_cases h1 : i = j
    · subst h1; rw [if_pos rfl, he]
    · rw [if_neg h1]
  exact ⟨fun i => by rw [e]; exact h.mem i, h.nd, fun i hi hr => by rw [e]; exact h.stay i hi hr⟩
theorem FarOf.more {n : Nat} {r r' : Nat → Int} {F : List Nat} (h : FarOf n r r' F) {j : Nat} {v : Int} (hj : j < n) (h1 : nearB (r' j) = true) (h2 : nearB v = false) : FarOf n r (turnR r' j v) (F ++ [j]) := by
  have hr : nearB (r j) = true := by
    cases hq : nearB (r j) with
    | true => rfl
    | false => rw [h.stay j hj hq] at h1; cases h1
  have hjF : j ∉ F := fun hm => by rw [((h.mem j).1 hm).2.2] at h1; cases h1
  refine ⟨fun i => ?_, ?_, fun i hi hri => ?_⟩
  · rw [List.mem_append]
    by_cases e : i = j
    · subst e
      rw [turnR_same]
      exact ⟨fun _ => ⟨hj, hr, h2⟩, fun _ => .inr (by simp)⟩
    · rw [turnR_other _ _ e, ← h.mem i]
      exact ⟨fun hh => hh.elim id (fun hh => absurd (by simpa using hh) e), .inl⟩
  · rw [List.nodup_append]
    exact ⟨h.nd, by simp, fun a ha b hb => by
      have : b = j := by simpa using hb
      subst this
      intro e; subst e; exact hjF ha⟩
  · by_cases e : i = j
    · subst e; rw [turnR_same]; exact h2
    · rw [turnR_other _ _ e]; exact h.stay i hi hri
/-- A round's end. -/
theorem spread_rs {ps : List PP} {S L F : List Nat} {r r' : Nat → Int} (h : RS ps S L r) (h1 : RI ps (S ++ L) r') (h2 : FarOf ps.length r r' F) : RS ps (S ++ L) F r' := by
  refine ⟨h1, ?_, fun i => ?_⟩
  · rw [List.nodup_append]
    refine ⟨h.nd, h2.nd, fun a ha b hb e => ?_⟩
    subst e
    have h3 := (h.mem a).1 ha
    have h4 := (h2.mem a).1 hb
    rw [h4.2.1] at h3; cases h3.2.2
  · rw [List.mem_append, h.mem i, h2.mem i]
    constructor
    · rintro (⟨a1, a2, a3⟩ | ⟨a1, a2, a3⟩)
      · exact ⟨a1, a2, h2.stay i a1 a3⟩
      · refine ⟨a1, fun hm => ?_, a3⟩
        rw [h1.nb i a1 hm] at a3; cases a3
    · rintro ⟨a1, a2, a3⟩
      cases hq : nearB (r i) with
      | false => exact .inl ⟨a1, a2, rfl⟩
      | true => exact .inr ⟨a1, rfl, a3⟩
theorem NatsR.keepZ {w w' : World} {Z Y : Nat} {v : Value} {F : List Nat} (h : NatsR w Z v F) (hy : ∀ q, v.ownBlock = some q → q < Y) (hb : Below Y w w') : NatsR w' Z v F := by
  obtain ⟨h1, ⟨h2, h3⟩ | ⟨g', cap, cur, h2, h3, h4, h5⟩⟩ := h
  · exact ⟨h1, .inl ⟨h2, h3⟩⟩
  · exact ⟨h1, .inr ⟨g', cap, cur, h2, h3, (hb.block g' (hy g' (by rw [h2]; rfl))).trans h4, h5⟩⟩
end Go.Proofs.YthojmbljlehpbaaGreatDoor.Relax
