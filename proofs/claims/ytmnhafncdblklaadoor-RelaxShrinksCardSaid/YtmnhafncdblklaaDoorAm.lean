/- How many words a part makes; where parts begin: the program's own answers. -/
import Derived.Test.YtmnhafncdblklaaDoorAl
import Derived.Deep.OwnRows
namespace Go.Proofs.YtmnhafncdblklaaDoor.Relax
open Go.RowKit Go.Proofs.YtmnhafncdblklaaDoor.Enc Go.Proofs.YtmnhafncdblklaaDoor.Graph

def wdR (p : PP) (r : Int) : Int := if nearB r then p.short else p.short + p.more
def stR (ps : List PP) (r : Nat → Int) : Nat → Int
  | 0 => 0
  | k + 1 => stR ps r k + wdR (partAt ps k) (r k)
theorem wdR_bd {ps : List PP} (hw : WF ps) {k : Nat} (hk : k < ps.length) (r : Int) : 1 ≤ wdR (partAt ps k) r ∧ wdR (partAt ps k) r ≤ 404 := by
  have h1 := hw.short k hk
  have h2 := hw.more k hk
  unfold wdR
  split <;> omega
theorem stR_bd {ps : List PP} (hw : WF ps) (r : Nat → Int) : ∀ k, k ≤ ps.length → 0 ≤ stR ps r k ∧ stR ps r k ≤ 404 * k
  | 0, _ => by simp [stR]
  | k + 1, h => by
    have ih := stR_bd hw r k (by omega)
    have h1 := wdR_bd hw (k := k) (by omega) (r k)
    show 0 ≤ stR ps r k + _ ∧ stR ps r k + _ ≤ _
    omega
set_option maxHeartbeats 2000000 in
theorem words_prog (p : PP) (r : Int) (hb : 1 ≤ p.short ∧ p.short ≤ 402 ∧ 0 ≤ p.more ∧ p.more ≤ 2) (w : World) :
    Calls Tryd.prog 50 #[.agg #[.int .i64 p.line, .int .i64 p.short, .int .i64 p.more, .int .i64 p.to, .int .i64 r]] w (Is (.int .i64 (wdR p r)) w) := by
  obtain ⟨nr, hnr⟩ : ∃ nr, nearB r = nr := ⟨_, rfl⟩
  have HB := Lib.hid (fun w => hnr ▸ near_prog r w)
  have HE := Lib.hid hnr
  clear hnr
  obtain ⟨line, short, more, tt⟩ := p
  simp only at hb
  obtain ⟨b1, b2, b3, b4⟩ := hb
  cases nr
  · go_enter Tryd.func50, Tryd.ntmps50
    go_wp2_with (go_at_call 63; refine (HB.out _).mono ?_; rintro e w2 ⟨rfl, rfl⟩)
    go_ret
    exact ⟨Relax.ret_int (by unfold wdR; rw [if_neg (by rw [HE.out]; simp)]), below_one _ _⟩
  · go_enter Tryd.func50, Tryd.ntmps50
    go_wp2_with (go_at_call 63; refine (HB.out _).mono ?_; rintro e w2 ⟨rfl, rfl⟩)
    go_ret
    exact ⟨Relax.ret_int (by unfold wdR; rw [if_pos HE.out]), below_one _ _⟩
theorem keep_cell {w w' : World} (hb : Below w.heap.size w w') {b o : Nat} {v : Value} (hl : b < w.heap.size) (h : w.cell? ⟨b, o, none⟩ = some v) : w'.cell? ⟨b, o, none⟩ = some v := (hb.cell (p := ⟨b, o, none⟩) hl).trans h
theorem keep_frozen {w w' : World} (hb : Below w.heap.size w w') {b o : Nat} {v : Bool} (hl : b < w.heap.size) (h : w.frozen? ⟨b, o, none⟩ = v) : w'.frozen? ⟨b, o, none⟩ = v := (hb.frozen (p := ⟨b, o, none⟩) hl).trans h
theorem set_off {w : World} {b j k : Nat} {u v : Value} (h : j ≠ k) (hc : w.cell? ⟨b, k, none⟩ = some u) : (w.setCell ⟨b, j, none⟩ v).cell? ⟨b, k, none⟩ = some u :=
  (World.cell?_setCell_other _ _ _ _ (by simp [])).trans hc
theorem set_far {w : World} {b c j k : Nat} {u v : Value} (h : c ≠ b) (hc : w.cell? ⟨b, k, none⟩ = some u) : (w.setCell ⟨c, j, none⟩ v).cell? ⟨b, k, none⟩ = some u :=
  (World.cell?_setCell_other _ _ _ _ (by simp [])).trans hc
/-- A row of numbers, each told by its place. -/
abbrev RowI (w : World) (b n : Nat) (f : Nat → Int) : Prop := w.rowIs b 3 n (fun j => .int .i64 (f j))
def StartsPost (ps : List PP) (r : Nat → Int) (w : World) (e : Ending) (w' : World) : Prop :=
  e = .returned (.slice (some ⟨w.heap.size, 0, none⟩) (ps.length + 1) (ps.length + 1)) ∧ RowI w' w.heap.size (ps.length + 1) (stR ps r) ∧ Below w.heap.size w w'
theorem info_intA : (Tryd.prog.info? 3).map (fun i => (i.zero, i.size, i.bytes)) = some (some (.int .i64 0), 1, 8) := by kernel_rfl
/-- What is so far told of where parts begin. -/
def partly (ps : List PP) (r : Nat → Int) (k : Nat) : Nat → Int := fun j => if j ≤ k then stR ps r j else 0
set_option maxHeartbeats 8000000 in
set_option maxRecDepth 100000 in
theorem startsOf_prog (ps : List PP) (r : Nat → Int) (p : Option Addr) (c : Nat) (B : Nat) (w : World) (hw : WF ps) (hP : PartsR w B (.slice p ps.length c) ps r) :
    Calls Tryd.prog 31 #[.slice p ps.length c] w (StartsPost ps r w) := by
  have h6 := hw.size
  unfold StartsPost
  obtain ⟨n, hn⟩ : ∃ n, n = ps.length := ⟨_, rfl⟩
  rw [← hn] at h6 hP ⊢
  have HP := Lib.hid hP
  have HN := Lib.hid hn
  have HW := Lib.hid hw
  clear hP hn hw
  have m0 : (n : Int) ≤ 60000 := by omega
  have m1 : (0 : Int) ≤ n := by omega
  have hmk := run_make_row' (P := Tryd.prog) 25 3 _ 8 Tryd.underlying25 info_intA rfl .i64 .i64 (n + 1) (by omega) (by omega)
  have ec : ((n + 1 : Nat) : Int) = (n : Int) + 1 := by omega
  rw [ec] at hmk
  clear ec
  go_enter Tryd.func31, Tryd.ntmps31
  go_wp2
  go_loopw [12] (fun i wr => ∃ k : Nat, k ≤ n ∧ i = .int .i64 k ∧ Hid (RowI wr w.heap.size (n + 1) (partly ps r k)) ∧ w.heap.size < wr.heap.size ∧ Hid (Below w.heap.size w wr)) (fun i _ => n - (intOf i).toNat)
  case atStart =>
    refine ⟨0, Nat.zero_le _, rfl, Lib.hid ?_, by simp, Lib.hid (below_one _ _)⟩
    exact (World.rowIs_made w (.int .i64 0) (n + 1) 3).congr (fun j hj => by unfold partly; split; (have : j = 0 := by omega); subst this; rfl; rfl)
  case round =>
    obtain ⟨k, hk, rfl, HR, hsz, HB⟩ := hrel
    by_cases hlt : k < n
    · obtain ⟨g, rfl, hg1, hg2, hc1, hc2, c0, c1, c2, c3, c4, _⟩ := (HP.out.below HB.out).at_ (k := k) (by have := HN.out; omega)
      have r0 := HR.out.cell (i := k) (by omega)
      have r1 := HR.out.cell (i := k + 1) (by omega)
      have f1 := HR.out.frozen (k + 1)
      have hpk := HW.out.short k (by rw [← HN.out]; exact hlt)
      have hpm := HW.out.more k (by rw [← HN.out]; exact hlt)
      have hb0 := stR_bd HW.out r k (by rw [← HN.out]; omega)
      have hb1 := wdR_bd HW.out (k := k) (by rw [← HN.out]; exact hlt) (r k)
      have HST := Lib.hid (show stR ps r (k + 1) = stR ps r k + wdR (partAt ps k) (r k) from rfl)
      have e0 : partly ps r k k = stR ps r k := by unfold partly; rw [if_pos (Nat.le_refl _)]
      have e1 : partly ps r k (k + 1) = 0 := by unfold partly; rw [if_neg (by omega)]
      simp only [e0, e1] at r0 r1
      clear e0 e1
      generalize hq : partAt ps k = q at *
      obtain ⟨line, short, more, tt⟩ := q
      simp only at c0 c1 c2 c3 hpk hpm
      have HWD := Lib.hid (fun w => words_prog ⟨line, short, more, tt⟩ (r k) ⟨hpk.1, hpk.2, hpm.1, hpm.2⟩ w)
      have HQ := Lib.hid hq
      clear hq
      unfold Is at HWD
      simp only at HWD
      generalize wdR ⟨line, short, more, tt⟩ (r k) = wd at *
      generalize r k = rk at *
      generalize stR ps r k = st at *
      have i0 : (0 : Int) ≤ k := by omega
      have i1 : (k : Int) < n := by omega
      have i2 : IntKind.i64.wrap ((k : Int) + 1) = (k : Int) + 1 := IntWalk.i64_in _ (by omega)
      have i3 : ((k : Int) + 1).toNat = k + 1 := by omega
      have i4 : IntKind.i64.wrap (st + wd) = st + wd := IntWalk.i64_in _ (by omega)
      have i5 : (0 : Int) ≤ (k : Int) + 1 := by omega
      have i6 : (k : Int) + 1 < (n : Int) + 1 := by omega
      have i7 : (k : Int) < (n : Int) + 1 := by omega
      have hne : wr.heap.size ≠ w.heap.size := by omega
      have hne2 : w.heap.size ≠ wr.heap.size := by omega
      go_upto_region 5 with (fail)
      have hb1 := below_one wr (.cells #[.int .i64 line, .int .i64 short, .int .i64 more, .int .i64 tt, .int .i64 rk] 70)
      have y0 := keep_cell hb1 hsz r0
      have y1 := keep_cell hb1 hsz r1
      have y2 := keep_frozen hb1 hsz f1
      have d0 : (wr.alloc (.cells #[.int .i64 line, .int .i64 short, .int .i64 more, .int .i64 tt, .int .i64 rk] 70)).cell? ⟨wr.heap.size, 0, none⟩ = some (.int .i64 line) := by go_simp
      have d1 : (wr.alloc (.cells #[.int .i64 line, .int .i64 short, .int .i64 more, .int .i64 tt, .int .i64 rk] 70)).cell? ⟨wr.heap.size, 1, none⟩ = some (.int .i64 short) := by go_simp
      have d2 : (wr.alloc (.cells #[.int .i64 line, .int .i64 short, .int .i64 more, .int .i64 tt, .int .i64 rk] 70)).cell? ⟨wr.heap.size, 2, none⟩ = some (.int .i64 more) := by go_simp
      have d3 : (wr.alloc (.cells #[.int .i64 line, .int .i64 short, .int .i64 more, .int .i64 tt, .int .i64 rk] 70)).cell? ⟨wr.heap.size, 3, none⟩ = some (.int .i64 tt) := by go_simp
      have d4 : (wr.alloc (.cells #[.int .i64 line, .int .i64 short, .int .i64 more, .int .i64 tt, .int .i64 rk] 70)).cell? ⟨wr.heap.size, 4, none⟩ = some (.int .i64 rk) := by go_simp
      have hz1 : wr.heap.size < (wr.alloc (.cells #[.int .i64 line, .int .i64 short, .int .i64 more, .int .i64 tt, .int .i64 rk] 70)).heap.size := by simp
      have HB1 := Lib.hid hb1
      clear hb1 c0 c1 c2 c3 c4 r0 r1 f1 hmk
      have hz0 : w.heap.size < (wr.alloc (.cells #[.int .i64 line, .int .i64 short, .int .i64 more, .int .i64 tt, .int .i64 rk] 70)).heap.size := Nat.lt_trans hsz hz1
      generalize (wr.alloc (.cells #[.int .i64 line, .int .i64 short, .int .i64 more, .int .i64 tt, .int .i64 rk] 70)) = W at y0 y1 y2 d0 d1 d2 d3 d4 hz1 hz0 HB1 ⊢
      generalize wr.heap.size = B1 at d0 d1 d2 d3 d4 hz1 hne hne2 ⊢
      go_region_held3 (fun w' => w'.cell? ⟨w.heap.size, k, none⟩ = some (.int .i64 st) ∧ w'.cell? ⟨B1, 0, none⟩ = some (.int .i64 line) ∧ w'.cell? ⟨B1, 1, none⟩ = some (.int .i64 short) ∧ w'.cell? ⟨B1, 2, none⟩ = some (.int .i64 more) ∧ w'.cell? ⟨B1, 3, none⟩ = some (.int .i64 tt) ∧ w'.cell? ⟨B1, 4, none⟩ = some (.int .i64 rk)) (first | exact ⟨set_off (by omega) x0, set_far hne2 x3, set_far hne2 x4, set_far hne2 x5, set_far hne2 x6, set_far hne2 x7⟩ | exact ⟨x0, x3, x4, x5, x6, x7⟩ | exact ⟨y0, d0, d1, d2, d3, d4⟩ | go_keep)
        (first | (go_at_call 50; refine (HWD.out _).mono ?_; rintro e w3 ⟨rfl, hb⟩; have x0 := keep_cell hb hz0 y0; have x1 := keep_cell hb hz0 y1; have x2 := keep_frozen hb hz0 y2; have x3 := keep_cell hb hz1 d0; have x4 := keep_cell hb hz1 d1; have x5 := keep_cell hb hz1 d2; have x6 := keep_cell hb hz1 d3; have x7 := keep_cell hb hz1 d4; have H2 := Lib.hid hb; have hz3 := hb.size; clear hb))
      go_wp2
      go_roundw
      case rel =>
        refine ⟨k + 1, by omega, by go_num, Lib.hid ?_, by first | exact Nat.lt_of_lt_of_le hz0 hz3 | (simp; exact Nat.lt_of_lt_of_le hz0 hz3), Lib.hid ((bt HB.out (bt HB1.out.drew H2.out)).setCell (by simp) _)⟩
        refine (((rowIs_below (rowIs_below HR.out HB1.out.drew) H2.out).set (k + 1) (.int .i64 (st + wd)))).congr (fun j hj => ?_)
        unfold partly
        by_cases h1 : j = k + 1
        · rw [if_pos h1, if_pos (by omega), h1, HST.out]
        · rw [if_neg h1]
          by_cases h2 : j ≤ k
          · rw [if_pos h2, if_pos (by omega)]
          · rw [if_neg h2, if_neg (by omega)]
      case measure => simp [intOf]; omega
    · have hkn : k = n := by omega
      subst hkn
      have i1 : ¬ ((k : Int) < (k : Int)) := by omega
      go_wp2
      go_ret
      exact ⟨rfl, HR.out.congr (fun j hj => by unfold partly; rw [if_pos (by omega)]), HB.out⟩
end Go.Proofs.YtmnhafncdblklaaDoor.Relax
