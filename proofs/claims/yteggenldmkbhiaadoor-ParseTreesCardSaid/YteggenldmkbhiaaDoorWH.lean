/- All functions of the parser keep their contracts, at every fuel. -/
import Derived.Test.YteggenldmkbhiaaDoorWG
import Derived.Test.YteggenldmkbhiaaDoorWA
import Derived.Recover
import Derived.Laws.Pointers
import Derived.Defers
namespace Go.Proofs.YteggenldmkbhiaaDoor.Parse
open Go.RowKit

theorem cs_all {E : Env} (hE : E.ok) (he : endsOnce E.l = true) : ∀ f, Cs E f := by
  intro f
  induction f using Nat.strongRecOn with
  | _ f ih =>
    cases f with
    | zero =>
      have hz : ∀ (fid : Nat) (args : Array Value) (nt : NT) (x : Loc), C E fid args nt x 0 := fun _ _ _ _ _ _ _ _ _ _ _ _ h => absurd rfl h
      have hzL : ∀ (fid : Nat) (args : Array Value) (nt : NT) (x : Loc), CL E fid args nt x 0 := fun _ _ _ _ _ _ _ _ _ _ _ h => absurd rfl h
      constructor <;> intros <;> first | exact hz _ _ _ _ | exact hzL _ _ _ _
    | succ f =>
      have IH : ∀ f', f' ≤ f → Cs E f' := fun f' h => ih f' (by omega)
      exact {
        item := item_c hE he IH, enum := enum_c hE he IH, entry := entry_c hE he IH, func := func_c hE he IH, params := params_c hE he IH, param := param_c hE he IH,
        decl := decl_c hE he IH, vard := fun t => vard_c hE he IH t, block := block_c hE he IH, stmt := stmt_c hE he IH, wordS := wordS_c hE he IH, label := label_c hE he IH,
        bracketed := bracketed_c hE he IH, ifS := ifS_c hE he IH, decided := fun k => decided_c hE he IH k, doS := doS_c hE he IH, forS := forS_c hE he IH, forFirst := forFirst_c hE he IH,
        upTo := fun b => upTo_c hE he IH b, leave := fun k => leave_c hE he IH k, returnS := returnS_c hE he IH, gotoS := gotoS_c hE he IH, caseS := caseS_c hE he IH, defaultS := defaultS_c hE he IH,
        expr := expr_c hE he IH, assign := assign_c hE he IH, cond := cond_c hE he IH, climb := fun n h1 h11 => climb_c hE he IH n h1 h11, unary := unary_c hE he IH, posts := posts_c hE he IH,
        primary := primary_c hE he IH, num := num_c hE he, named := named_c hE he IH, args := args_c hE he IH }
/-- The parser from its beginning: it reads a whole file, or throws the token that cannot stand. -/
theorem file_any {E : Env} {X : Nat → Prop} (hE : E.ok) (he : endsOnce E.l = true) {w : World} (hX : ∀ b, X b → b < w.heap.size) (hs : St E X ⟨0, []⟩ w) :
    Calls Tryd.prog 20 #[ptr E] w (PostF E X w (runAll E.l)) := by
  have hl := endsOnce_last he
  have hne := runAll_total he
  have h49 : fuelOf E.l = (fuelOf E.l - 1) + 1 := by have := hl.1; unfold fuelOf; omega
  unfold runAll at hne ⊢
  rw [h49] at hne ⊢
  exact file_c (fun f' _ => cs_all hE he f') (Mid.start hE he hX hs hl.1 (Nat.le_refl _) hne rfl)
end Go.Proofs.YteggenldmkbhiaaDoor.Parse
namespace Go.Proofs.YteggenldmkbhiaaDoor.Parse
open Go.RowKit

set_option maxHeartbeats 1000000 in
theorem placeOf_any (a : Int) (w : World) : Calls Tryd.prog 19 #[.iface 55 (.agg #[.int .i64 a])] w fun e w' => e = .returned (.int .i64 a) ∧ Below w.heap.size w w' := by
  have hta : ∀ w : World, (Instr.typeAssert (.iface 55 (.agg #[.int .i64 a])) 20 55 true).run Tryd.prog w = .ok (.tuple #[.agg #[.int .i64 a], .bool true]) w := fun _ => by kernel_rfl
  go_enter Tryd.func19, Tryd.ntmps19
  go_wp2
  go_ret
  exact ⟨rfl, below_one _ _⟩

/-- Is every one of the first k tokens an end just where the last one is? -/
def goodTo (l : List PT) (k : Nat) : Prop := ∀ i, i < k → ((tokAt l i).kind = 0 ↔ i = l.length - 1)
theorem endsOnce_eq {l : List PT} (h : 0 < l.length ∧ l.length ≤ 4000) : endsOnce l = true ↔ goodTo l l.length := by
  simp only [endsOnce, Bool.and_eq_true, decide_eq_true_eq, List.all_eq_true, List.mem_range, goodTo]
  exact ⟨fun h => h.2, fun h2 => ⟨h, h2⟩⟩

set_option maxHeartbeats 4000000 in
set_option maxRecDepth 100000 in
theorem endsOnce_any (E : Env) (w : World) (hc : TokCells E w) (htb : E.l ≠ [] → E.tb < w.heap.size) (hm : E.l.length ≤ 140737488355328) :
    Calls Tryd.prog 17 #[tokV E] w fun e w' => e = .returned (.bool (endsOnce E.l)) ∧ Below w.heap.size w w' := by
  obtain ⟨N, hN⟩ : ∃ N, N = E.l.length := ⟨_, rfl⟩
  unfold tokV
  rw [← hN] at hm ⊢
  have HN := Lib.hid hN
  have HC := Lib.hid hc
  have HT := Lib.hid htb
  clear hc htb
  by_cases h0 : N = 0
  · have hv : endsOnce E.l = false := by unfold endsOnce; rw [← hN, h0]; rfl
    have HV := Lib.hid hv
    clear hv hN
    subst h0
    go_enter Tryd.func17, Tryd.ntmps17
    go_wp2
    go_ret
    rw [HV.out]
    exact ⟨rfl, Below.refl _ _⟩
  · by_cases h4 : 4000 < N
    · have hv : endsOnce E.l = false := by unfold endsOnce; rw [← hN]; simp; omega
      have HV := Lib.hid hv
      have b0 : ((N : Int) == 0) = false := by simp; omega
      clear hv hN
      go_enter Tryd.func17, Tryd.ntmps17
      go_wp2
      go_ret
      rw [HV.out]
      exact ⟨rfl, Below.refl _ _⟩
    · have b0 : ((N : Int) == 0) = false := by simp; omega
      have hsz := HT.out (by intro e; rw [e] at hN; simp at hN; omega)
      have hn0 : 0 < N := by omega
      have hn4 : N ≤ 4000 := by omega
      clear hN h0 h4
      go_enter Tryd.func17, Tryd.ntmps17
      go_wp2
      go_loopw [15] (fun i wr => ∃ k : Nat, k ≤ N ∧ i = .int .i64 k ∧ Hid (goodTo E.l k) ∧ Below w.heap.size w wr) (fun i _ => N - (intOf i).toNat)
      case atStart => exact ⟨0, by omega, rfl, Lib.hid (fun i h => by omega), Below.refl _ _⟩
      case round =>
        obtain ⟨k, hk, rfl, HG, hbw⟩ := hrel
        by_cases hlt : k < N
        · obtain ⟨t0, t1, t2, t3, t4⟩ := HC.out k (by rw [← HN.out]; exact hlt)
          have c0 := (hbw.cell (p := ⟨E.tb, k * 5, none⟩) hsz).trans t0
          have c1 := (hbw.cell (p := ⟨E.tb, k * 5 + 1, none⟩) hsz).trans t1
          have c2 := (hbw.cell (p := ⟨E.tb, k * 5 + 2, none⟩) hsz).trans t2
          have c3 := (hbw.cell (p := ⟨E.tb, k * 5 + 3, none⟩) hsz).trans t3
          have c4 := (hbw.cell (p := ⟨E.tb, k * 5 + 4, none⟩) hsz).trans t4
          have hb2 : E.tb < wr.heap.size := Nat.lt_of_lt_of_le hsz hbw.size
          have i0 : (0 : Int) ≤ k := by omega
          have i1 : (k : Int) < N := by omega
          have i2 : (N : Int) ≤ 4000 := by omega
          have i3 : (1 : Int) ≤ N := by omega
          have HBW := Lib.hid hbw
          clear t0 t1 t2 t3 t4 hbw
          by_cases hg : (tokAt E.l k).kind = 0 ↔ k = N - 1
          · have hbb : ((tokAt E.l k).kind == 0) = ((k : Int) == (N : Int) - 1) := by
              rw [Bool.eq_iff_iff, beq_iff_eq, beq_iff_eq, hg]; omega
            have HG2 : Hid (goodTo E.l (k + 1)) := Lib.hid (fun i h => by
              rcases Nat.lt_or_ge i k with h1 | h1
              · exact HG.out i h1
              · obtain rfl : i = k := by omega
                rw [← HN.out]; exact hg)
            clear hg
            go_wp2
            go_roundw
            case rel => exact ⟨k + 1, by omega, by go_num, HG2, HBW.out.trans ((Below.refl _ _).alloc (by have := HBW.out.size; omega) _)⟩
            case measure => simp [intOf]; omega
          · have hbb : (((tokAt E.l k).kind == 0) == ((k : Int) == (N : Int) - 1)) = false := by
              rw [beq_eq_false_iff_ne]; intro e; apply hg
              rw [Bool.eq_iff_iff, beq_iff_eq, beq_iff_eq] at e
              rw [e]; omega
            have hv : endsOnce E.l = false := by
              rw [Bool.eq_false_iff]; intro h
              exact hg (by have := endsOnce_iff h (k := k) (by rw [← HN.out]; exact hlt); rw [← HN.out] at this; exact this)
            have HV := Lib.hid hv
            clear hg hv
            go_wp2
            go_ret
            rw [HV.out]
            exact ⟨rfl, HBW.out.trans ((Below.refl _ _).alloc (by have := HBW.out.size; omega) _)⟩
        · obtain rfl : k = N := by omega
          have hv : endsOnce E.l = true := (endsOnce_eq (by rw [← HN.out]; exact ⟨hn0, hn4⟩)).2 (by rw [← HN.out]; exact HG.out)
          have HV := Lib.hid hv
          have HBW := Lib.hid hbw
          clear hv hbw
          go_wp2
          go_ret
          rw [HV.out]
          exact ⟨rfl, HBW.out⟩
end Go.Proofs.YteggenldmkbhiaaDoor.Parse
namespace Go.Proofs.YteggenldmkbhiaaDoor.Parse
open Go.RowKit

set_option maxHeartbeats 4000000 in
set_option maxRecDepth 100000 in
theorem catch_panicking (b0 b1 b2 : Nat) (a : Int) (older : List PanicEntry) (w : World) (v1 v2 v0 : Value)
    (h0 : w.cell? ⟨b0, 0, none⟩ = some v0) (z0 : w.frozen? ⟨b0, 0, none⟩ = false) (h1 : w.cell? ⟨b1, 0, none⟩ = some v1) (z1 : w.frozen? ⟨b1, 0, none⟩ = false) (h2 : w.cell? ⟨b2, 0, none⟩ = some v2) (z2 : w.frozen? ⟨b2, 0, none⟩ = false) (n01 : b0 < b1) (n12 : b1 < b2) :
    CallsD Tryd.prog 18 #[.pointer (some ⟨b0, 0, none⟩), .pointer (some ⟨b1, 0, none⟩), .pointer (some ⟨b2, 0, none⟩)] (.panicking ({ v := .iface 55 (.agg #[.int .i64 a]), recovered := false } :: older)) w fun e u' w' =>
      e = .returned (.tuple #[]) ∧ u' = .panicking ({ v := .iface 55 (.agg #[.int .i64 a]), recovered := true } :: older) ∧
        ∃ w1, Below w.heap.size w w1 ∧ w' = ((w1.setCell ⟨b0, 0, none⟩ (.slice none 0 0)).setCell ⟨b1, 0, none⟩ (.int .i64 a)).setCell ⟨b2, 0, none⟩ (.int .i64 20) := by
  refine callsD_of_wpS Tryd.func18 rfl fun c₀ cs hu => ?_
  apply wpS_seq
  apply wpS_region
  simp [wpOpsS, go_sem, recoverD, hu, Tryd.ntmps18, Exit.thenS]
  refine wpS_of_wp ?_
  go_wp2_with fail
  refine (placeOf_any a w).mono ?_
  rintro e w1 ⟨rfl, hb⟩
  have l0 := World.block_lt_of_cell? w _ h0
  have l1 := World.block_lt_of_cell? w _ h1
  have l2 := World.block_lt_of_cell? w _ h2
  have g0 := (hb.cell (p := ⟨b0, 0, none⟩) l0).trans h0
  have g1 := (hb.cell (p := ⟨b1, 0, none⟩) l1).trans h1
  have g2 := (hb.cell (p := ⟨b2, 0, none⟩) l2).trans h2
  have y0 := (hb.frozen (p := ⟨b0, 0, none⟩) l0).trans z0
  have y1 := (hb.frozen (p := ⟨b1, 0, none⟩) l1).trans z1
  have y2 := (hb.frozen (p := ⟨b2, 0, none⟩) l2).trans z2
  have d01 : ¬ b0 = b1 := by omega
  have d10 : ¬ b1 = b0 := by omega
  have d12 : ¬ b1 = b2 := by omega
  have d21 : ¬ b2 = b1 := by omega
  have d02 : ¬ b0 = b2 := by omega
  have d20 : ¬ b2 = b0 := by omega
  have HB := Lib.hid hb
  clear hb h0 h1 h2 z0 z1 z2 n01 n12 l0 l1 l2
  go_wp2
  exact ⟨rfl, _, rfl, _, results_none rfl _ _ _, rfl, rfl, w1, HB.out, rfl⟩

set_option maxHeartbeats 4000000 in
theorem catch_idle (p0 p1 p2 : Addr) (w : World) :
    CallsD Tryd.prog 18 #[.pointer (some p0), .pointer (some p1), .pointer (some p2)] .returning w fun e u' w' => e = .returned (.tuple #[]) ∧ u' = .returning ∧ w' = w := by
  refine callsD_of_wpS Tryd.func18 rfl fun c₀ cs hu => ?_
  apply wpS_seq
  apply wpS_region
  simp [wpOpsS, go_sem, recoverD, hu, Tryd.ntmps18, Exit.thenS]
  refine wpS_of_wp ?_
  go_wp2
  cases c₀
  simp_all [bodyPostS, results, Tryd.results18]
end Go.Proofs.YteggenldmkbhiaaDoor.Parse
namespace Go.Proofs.YteggenldmkbhiaaDoor.Parse
open Go.RowKit

theorem NodesAt.form {w : World} {B : Nat} {X : Nat → Prop} {v : Value} {ns : List PN} (h : NodesAt w B X v ns) : ∃ (p : Option Addr) (n d : Nat), v = .slice p n d := by
  obtain ⟨kvs, _, h2, _⟩ := h
  rcases h2.2 with ⟨rfl, _⟩ | ⟨g, cap, cur, rfl, _⟩
  · exact ⟨_, _, _, rfl⟩
  · exact ⟨_, _, _, rfl⟩
/-- What of the nodes is left when the three results' cells are written. -/
theorem NodesAt.put3 {w w' : World} {B b : Nat} {X : Nat → Prop} {v c0 c1 c2 : Value} {ns : List PN} (h : NodesAt w B X v ns) (hs : ∀ k, k ≠ b → k ≠ b + 1 → k ≠ b + 1 + 1 → w'.heap[k]? = w.heap[k]?)
    (h0 : w.heap[b]? = some (.cells #[c0] 28 (0, 0))) (h1 : w.heap[b + 1]? = some (.cells #[c1] 3 (0, 0))) (h2 : w.heap[b + 1 + 1]? = some (.cells #[c2] 29 (0, 0))) (hX : X (b + 1)) : NodesAt w' B (fun _ => False) v ns := by
  obtain ⟨kvs, k1, k2, k3⟩ := h
  have hrow : ∀ {e : TypeId} {size : Nat} {v : Value} {n : Nat} {xs : List Value}, w.ownsRow B e size v n xs → e = 34 ∨ e = 3 → (∀ g, v.ownBlock = some g → e = 3 → g ≠ b + 1) → w'.ownsRow B e size v n xs := by
    intro e size v n xs h he hne
    refine ⟨h.1, ?_⟩
    rcases h.2 with hn | ⟨g, cap, cur, rfl, hb, hgg, rest⟩
    · exact .inl hn
    · refine .inr ⟨g, cap, cur, rfl, hb, ?_, rest⟩
      have a0 : g ≠ b := fun e0 => by
        subst e0; rw [h0] at hgg; simp at hgg
        have := hgg.2; rcases he with rfl | rfl <;> simp at this
      have a2 : g ≠ b + 1 + 1 := fun e0 => by
        subst e0; rw [h2] at hgg; simp at hgg
        have := hgg.2; rcases he with rfl | rfl <;> simp at this
      have a1 : g ≠ b + 1 := fun e0 => by
        rcases he with rfl | rfl
        · subst e0; rw [h1] at hgg; simp at hgg
        · exact hne g rfl rfl e0
      rw [hs g a0 a1 a2]
      exact hgg
  refine ⟨kvs, k1, hrow k2 (.inl rfl) (fun g _ h => by simp at h), fun i n kv hn hk => ?_⟩
  obtain ⟨k4, k5⟩ := k3 i n kv hn hk
  exact ⟨hrow k4 (.inr rfl) (fun g hg _ e0 => k5 g hg (e0 ▸ hX)), fun _ _ h => h⟩
/-- What parse.Parse answers. -/
def ParseEnd (w : World) (R : List PN × Int × Int) (e : Ending) (w' : World) : Prop :=
  ∃ v, e = .returned (.tuple #[.agg #[v], .int .i64 R.2.1, .int .i64 R.2.2]) ∧ NodesAt w' w.heap.size (fun _ => False) v R.1 ∧ Below w.heap.size w w'

set_option maxHeartbeats 4000000 in
set_option maxRecDepth 100000 in
theorem parse_arg (E : Env) (w : World) (hc : TokCells E w) (htb : E.l ≠ [] → E.tb < w.heap.size) (hm : E.l.length ≤ 140737488355328) (h : endsOnce E.l = false) :
    Calls Tryd.prog 10 #[tokV E] w fun e w' => ParseEnd w ([], 0, 1) e w' := by
  have hmf : ∀ (fn : Fn) (first cap : Array Value) (w : World), (Instr.makeFunc fn first cap).run Tryd.prog w = .ok (.func fn first cap) w := fun _ _ _ _ => rfl
  have hw : ∀ w', Below w.heap.size w w' → Calls Tryd.prog 17 #[tokV E] w' fun e w2 => e = .returned (.bool false) ∧ Below w'.heap.size w' w2 := by
    intro w' hb
    have := endsOnce_any E w' (fun k hk => by
      have hlt := htb (by intro e; rw [e] at hk; simp at hk)
      obtain ⟨a, b, c, d, e⟩ := hc k hk
      have hq : ∀ j, w'.cell? ⟨E.tb, j, none⟩ = w.cell? ⟨E.tb, j, none⟩ := fun j => hb.cell (p := ⟨E.tb, j, none⟩) hlt
      exact ⟨(hq _).trans a, (hq _).trans b, (hq _).trans c, (hq _).trans d, (hq _).trans e⟩) (fun h => Nat.lt_of_lt_of_le (htb h) hb.size) hm
    rw [h] at this; exact this
  have HW := Lib.hid hw
  clear hw hc htb hm h
  unfold tokV at HW ⊢
  go_enter_defers Tryd.func10, Tryd.ntmps10
  go_wp2_with fail
  refine (HW.out _ ((((Below.refl _ _).alloc (Nat.le_refl _) _).alloc (by simp) _).alloc (by simp; omega) _)).mono ?_
  rintro e w1 ⟨rfl, hb⟩
  obtain ⟨hq, hf⟩ := bcell hb
  have hz := hb.size
  simp only [World.size_alloc] at hz
  have hW : ∀ (a b c : Value), ((((w.alloc (.cells #[a] 28)).alloc (.cells #[b] 3)).alloc (.cells #[c] 29)).cell? ⟨w.heap.size, 0, none⟩ = some a) ∧ ((((w.alloc (.cells #[a] 28)).alloc (.cells #[b] 3)).alloc (.cells #[c] 29)).cell? ⟨w.heap.size + 1, 0, none⟩ = some b) ∧
      ((((w.alloc (.cells #[a] 28)).alloc (.cells #[b] 3)).alloc (.cells #[c] 29)).cell? ⟨w.heap.size + 1 + 1, 0, none⟩ = some c) := by
    intro a b c
    refine ⟨?_, ?_, ?_⟩ <;> go_simp
  have hZ : ∀ (a b c : Value), ((((w.alloc (.cells #[a] 28)).alloc (.cells #[b] 3)).alloc (.cells #[c] 29)).frozen? ⟨w.heap.size, 0, none⟩ = false) ∧ ((((w.alloc (.cells #[a] 28)).alloc (.cells #[b] 3)).alloc (.cells #[c] 29)).frozen? ⟨w.heap.size + 1, 0, none⟩ = false) ∧
      ((((w.alloc (.cells #[a] 28)).alloc (.cells #[b] 3)).alloc (.cells #[c] 29)).frozen? ⟨w.heap.size + 1 + 1, 0, none⟩ = false) := by
    intro a b c
    refine ⟨?_, ?_, ?_⟩ <;> go_simp
  have e0 := (hq w.heap.size 0 (by simp; omega)).trans (hW _ _ _).1
  have e1 := (hq (w.heap.size + 1) 0 (by simp)).trans (hW _ _ _).2.1
  have e2 := (hq (w.heap.size + 1 + 1) 0 (by simp)).trans (hW _ _ _).2.2
  have z0 := (hf w.heap.size 0 (by simp; omega)).trans (hZ _ _ _).1
  have z1 := (hf (w.heap.size + 1) 0 (by simp)).trans (hZ _ _ _).2.1
  have z2 := (hf (w.heap.size + 1 + 1) 0 (by simp)).trans (hZ _ _ _).2.2
  clear hW hZ
  have HB := Lib.hid hb
  clear hb hq hf
  go_wp2
  have hp : ParseEnd w ([], 0, 1) (.returned (.tuple #[.agg #[.slice none 0 0], .int .i64 0, .int .i64 1])) (((w1.setCell ⟨w.heap.size, 0, none⟩ (.slice none 0 0)).setCell ⟨w.heap.size + 1, 0, none⟩ (.int .i64 0)).setCell ⟨w.heap.size + 1 + 1, 0, none⟩ (.int .i64 1)) := by
    have hb3 : Below w.heap.size w w1 := ((((Below.refl _ _).alloc (Nat.le_refl _) _).alloc (by simp) _).alloc (by simp; omega) _).trans (HB.out.mono (by simp; omega))
    exact ⟨_, rfl, ⟨[], rfl, World.ownsRow_nil _ _ 34 8, fun i n kv h => by simp at h⟩, ((hb3.setCell (by simp) _).setCell (by simp) _).setCell (by simp; omega) _⟩
  have HP := Lib.hid hp
  clear hp
  simp [bodyPostD, Leaves, results, Tryd.results10, go_sem, e0, e1, e2]
  exact HP.out

set_option maxHeartbeats 8000000 in
set_option maxRecDepth 100000 in
theorem parse_take (E : Env) (w : World) (hc : TokAt E w) (htb : E.tb < w.heap.size) (hl : E.l.length ≤ 4000) (hok : ∀ k, (tokAt E.l k).text.length ≤ 140737488355328 ∧ (tokAt E.l k).num ≤ 4294967295) (h : endsOnce E.l = true) :
    Calls Tryd.prog 10 #[tokV E] w fun e w' => ParseEnd w (parseAll E.l) e w' := by
  have hmf : ∀ (fn : Fn) (first cap : Array Value) (w : World), (Instr.makeFunc fn first cap).run Tryd.prog w = .ok (.func fn first cap) w := fun _ _ _ _ => rfl
  have hcw : ∀ w', Below w.heap.size w w' → TokCells E w' := by
    intro w' hb k hk
    obtain ⟨a, b, c, d, e⟩ := hc.1 k hk
    have hq : ∀ j, w'.cell? ⟨E.tb, j, none⟩ = w.cell? ⟨E.tb, j, none⟩ := fun j => hb.cell (p := ⟨E.tb, j, none⟩) htb
    exact ⟨(hq _).trans a, (hq _).trans b, (hq _).trans c, (hq _).trans d, (hq _).trans e⟩
  have how : ∀ w', Below w.heap.size w w' → OpsAt w' := by
    intro w' hb
    obtain ⟨t, fr, h0⟩ := hc.2
    exact ⟨t, fr, (hb.block 0 (lt_of_block h0)).trans h0⟩
  have hw : ∀ w', Below w.heap.size w w' → Calls Tryd.prog 17 #[tokV E] w' fun e w2 => e = .returned (.bool true) ∧ Below w'.heap.size w' w2 := by
    intro w' hb
    have := endsOnce_any E w' (hcw w' hb) (fun _ => Nat.lt_of_lt_of_le htb hb.size) (by omega)
    rw [h] at this; exact this
  have hst : ∀ w1, Below w.heap.size w w1 → St { E with g := w1.heap.size, B := w.heap.size } (fun b => b = w.heap.size + 1) ⟨0, []⟩ (w1.alloc (.cells #[tokV E, .int .i64 0, .slice none 0 0] 49)) := by
    intro w1 hb
    have hb2 := hb.trans ((Below.refl w1.heap.size w1).alloc (Nat.le_refl _) (.cells #[tokV E, .int .i64 0, .slice none 0 0] 49) |>.mono hb.size)
    exact ⟨.slice none 0 0, heap_alloc_new w1 _, ⟨hcw _ hb2, how _ hb2⟩, [], rfl, World.ownsRow_nil _ _ 34 8, fun i n kv h => by simp at h⟩
  have hfile : ∀ w1, Below w.heap.size w w1 → w.heap.size + 1 < w1.heap.size → Calls Tryd.prog 20 #[.pointer (some ⟨w1.heap.size, 0, none⟩)] (w1.alloc (.cells #[tokV E, .int .i64 0, .slice none 0 0] 49)) (PostF { E with g := w1.heap.size, B := w.heap.size } (fun b => b = w.heap.size + 1) (w1.alloc (.cells #[tokV E, .int .i64 0, .slice none 0 0] 49)) (runAll E.l)) :=
    fun w1 hb hlt => file_any (E := { E with g := w1.heap.size, B := w.heap.size }) ⟨htb, hb.size, hl, hok⟩ h (fun b hb => by subst hb; rw [World.size_alloc]; omega) (hst w1 hb)
  have HW := Lib.hid hw
  have HF := Lib.hid hfile
  have HE := Lib.hid h
  clear hw hc hl hok hcw how hst hfile h htb
  unfold tokV at HW HF ⊢
  go_enter_defers Tryd.func10, Tryd.ntmps10
  go_wp2_with fail
  refine (HW.out _ ((((Below.refl _ _).alloc (Nat.le_refl _) _).alloc (by simp) _).alloc (by simp; omega) _)).mono ?_
  rintro e w1 ⟨rfl, hb⟩
  obtain ⟨hq, hf⟩ := bcell hb
  have hz := hb.size
  simp only [World.size_alloc] at hz
  have hW : ∀ (a b c : Value), ((((w.alloc (.cells #[a] 28)).alloc (.cells #[b] 3)).alloc (.cells #[c] 29)).cell? ⟨w.heap.size, 0, none⟩ = some a) ∧ ((((w.alloc (.cells #[a] 28)).alloc (.cells #[b] 3)).alloc (.cells #[c] 29)).cell? ⟨w.heap.size + 1, 0, none⟩ = some b) ∧
      ((((w.alloc (.cells #[a] 28)).alloc (.cells #[b] 3)).alloc (.cells #[c] 29)).cell? ⟨w.heap.size + 1 + 1, 0, none⟩ = some c) := by
    intro a b c
    refine ⟨?_, ?_, ?_⟩ <;> go_simp
  have hZ : ∀ (a b c : Value), ((((w.alloc (.cells #[a] 28)).alloc (.cells #[b] 3)).alloc (.cells #[c] 29)).frozen? ⟨w.heap.size, 0, none⟩ = false) ∧ ((((w.alloc (.cells #[a] 28)).alloc (.cells #[b] 3)).alloc (.cells #[c] 29)).frozen? ⟨w.heap.size + 1, 0, none⟩ = false) ∧
      ((((w.alloc (.cells #[a] 28)).alloc (.cells #[b] 3)).alloc (.cells #[c] 29)).frozen? ⟨w.heap.size + 1 + 1, 0, none⟩ = false) := by
    intro a b c
    refine ⟨?_, ?_, ?_⟩ <;> go_simp
  have e0 := (hq w.heap.size 0 (by simp; omega)).trans (hW _ _ _).1
  have e1 := (hq (w.heap.size + 1) 0 (by simp)).trans (hW _ _ _).2.1
  have e2 := (hq (w.heap.size + 1 + 1) 0 (by simp)).trans (hW _ _ _).2.2
  have z0 := (hf w.heap.size 0 (by simp; omega)).trans (hZ _ _ _).1
  have z1 := (hf (w.heap.size + 1) 0 (by simp)).trans (hZ _ _ _).2.1
  have z2 := (hf (w.heap.size + 1 + 1) 0 (by simp)).trans (hZ _ _ _).2.2
  clear hW hZ
  have g0 : ∀ (a b c : Value), ((((w.alloc (.cells #[a] 28)).alloc (.cells #[b] 3)).alloc (.cells #[c] 29)).heap[w.heap.size]? = some (.cells #[a] 28 (0, 0))) ∧ ((((w.alloc (.cells #[a] 28)).alloc (.cells #[b] 3)).alloc (.cells #[c] 29)).heap[w.heap.size + 1]? = some (.cells #[b] 3 (0, 0))) ∧
      ((((w.alloc (.cells #[a] 28)).alloc (.cells #[b] 3)).alloc (.cells #[c] 29)).heap[w.heap.size + 1 + 1]? = some (.cells #[c] 29 (0, 0))) := by
    intro a b c
    refine ⟨?_, ?_, ?_⟩
    · rw [Below.heap_alloc _ _ _ (by simp; omega), Below.heap_alloc _ _ _ (by simp)]; exact heap_alloc_new w _
    · rw [Below.heap_alloc _ _ _ (by simp)]
      have := heap_alloc_new (w.alloc (.cells #[a] 28)) (.cells #[b] 3); rwa [World.size_alloc] at this
    · have := heap_alloc_new ((w.alloc (.cells #[a] 28)).alloc (.cells #[b] 3)) (.cells #[c] 29); rwa [World.size_alloc, World.size_alloc] at this
  have G0 := (hb.block w.heap.size (by simp; omega)).trans (g0 _ _ _).1
  have G1 := (hb.block (w.heap.size + 1) (by simp)).trans (g0 _ _ _).2.1
  have G2 := (hb.block (w.heap.size + 1 + 1) (by simp)).trans (g0 _ _ _).2.2
  clear g0
  have HB := Lib.hid (((((Below.refl _ _).alloc (Nat.le_refl _) _).alloc (by simp) _).alloc (by simp; omega) _).trans (hb.mono (by simp; omega)) : Below w.heap.size w w1)
  clear hb hq hf
  go_wp2_with fail
  refine (HF.out w1 HB.out (by omega)).mono ?_
  rintro e w2 (⟨k, hk, rfl, hx⟩ | ⟨ks, s', hR, rfl, hs', hx⟩)
  · have hup : ∀ {k : Nat} {c : Value} {t : TypeId}, w1.heap[k]? = some (.cells #[c] t (0, 0)) → t ≠ 49 ∧ t ≠ 34 → w2.heap[k]? = some (.cells #[c] t (0, 0)) := by
      intro k c t h ht
      have h1 := (Below.heap_alloc w1 (.cells #[.slice (some ⟨E.tb, 0, none⟩) E.l.length E.cap, .int .i64 0, .slice none 0 0] 49) k (lt_of_block h)).trans h
      exact (hx.block k (lt_of_block h1) (.inr (by rw [h1]; simp [pish, ht.1, ht.2]))).trans h1
    have K0 := hup G0 (by decide)
    have K1 := hup G1 (by decide)
    have K2 := hup G2 (by decide)
    have q0 := cell_of_one K0
    have q1 := cell_of_one K1
    have q2 := cell_of_one K2
    have y0 := free_of_one K0
    have y1 := free_of_one K1
    have y2 := free_of_one K2
    have hsz := lt_of_block K2
    have hxb : Below w.heap.size w w2 := by
      have h1 := HB.out
      refine ⟨hx.os.trans h1.os, hx.tape.trans h1.tape, hx.output.trans h1.output, by omega, fun k hk' => ?_⟩
      have hk1 : k < w1.heap.size := Nat.lt_of_lt_of_le hk' h1.size
      rw [hx.block k (by rw [World.size_alloc]; omega) (.inl hk'), Below.heap_alloc _ _ _ hk1]
      exact h1.block k hk'
    have HX := Lib.hid hxb
    have hpa : parseAll E.l = ([], (tokAt E.l k).place, 20) := by unfold parseAll; rw [if_pos HE.out, hk]
    have HA := Lib.hid hpa
    have hct := catch_panicking w.heap.size (w.heap.size + 1) (w.heap.size + 1 + 1) (tokAt E.l k).place [] w2 _ _ _ q0 y0 q1 y1 q2 y2 (by omega) (by omega)
    have HC := Lib.hid hct
    clear hx hk hup K0 K1 K2 G0 G1 G2 hpa hxb hct
    unfold thrown
    have hp : ∀ w4, Below w2.heap.size w2 w4 → ParseEnd w (parseAll E.l) (.returned (.tuple #[.agg #[.slice none 0 0], .int .i64 (tokAt E.l k).place, .int .i64 20])) (((w4.setCell ⟨w.heap.size, 0, none⟩ (.slice none 0 0)).setCell ⟨w.heap.size + 1, 0, none⟩ (.int .i64 (tokAt E.l k).place)).setCell ⟨w.heap.size + 1 + 1, 0, none⟩ (.int .i64 20)) := by
      intro w4 hb4
      rw [HA.out]
      exact ⟨_, rfl, ⟨[], rfl, World.ownsRow_nil _ _ 34 8, fun i n kv h => by simp at h⟩, (((HX.out.trans (hb4.mono (by omega))).setCell (Nat.le_refl _) _).setCell (Nat.le_succ _) _).setCell (by show w.heap.size ≤ w.heap.size + 1 + 1; omega) _⟩
    have HP := Lib.hid hp
    clear hp
    refine leaves_cons (f := 18) (args := #[.pointer (some ⟨w.heap.size, 0, none⟩), .pointer (some ⟨w.heap.size + 1, 0, none⟩), .pointer (some ⟨w.heap.size + 1 + 1, 0, none⟩)]) (by simp) rfl ?_
    refine HC.out.mono ?_
    rintro e u' w' ⟨rfl, rfl, w4, hb4, rfl⟩
    have l0 := World.block_lt_of_cell? _ _ q0
    have l1 := World.block_lt_of_cell? _ _ q1
    have l2 := World.block_lt_of_cell? _ _ q2
    have r0 := (hb4.cell (p := ⟨w.heap.size, 0, none⟩) l0).trans q0
    have r1 := (hb4.cell (p := ⟨w.heap.size + 1, 0, none⟩) l1).trans q1
    have r2 := (hb4.cell (p := ⟨w.heap.size + 1 + 1, 0, none⟩) l2).trans q2
    have HP4 := Lib.hid (HP.out w4 hb4)
    clear HP hb4
    simp [Leaves, settle, results, Tryd.results10, go_sem, r0, r1, r2]
    exact HP4.out
  · have hup : ∀ {k : Nat} {c : Value} {t : TypeId}, w1.heap[k]? = some (.cells #[c] t (0, 0)) → t ≠ 49 ∧ t ≠ 34 → w2.heap[k]? = some (.cells #[c] t (0, 0)) := by
      intro k c t h ht
      have h1 := (Below.heap_alloc w1 (.cells #[.slice (some ⟨E.tb, 0, none⟩) E.l.length E.cap, .int .i64 0, .slice none 0 0] 49) k (lt_of_block h)).trans h
      exact (hx.block k (lt_of_block h1) (.inr (by rw [h1]; simp [pish, ht.1, ht.2]))).trans h1
    have K0 := hup G0 (by decide)
    have K1 := hup G1 (by decide)
    have K2 := hup G2 (by decide)
    have q0 := cell_of_one K0
    have q1 := cell_of_one K1
    have q2 := cell_of_one K2
    have y0 := free_of_one K0
    have y1 := free_of_one K1
    have y2 := free_of_one K2
    have hsz := lt_of_block K2
    obtain ⟨v, hv⟩ := hs'
    obtain ⟨p, n, d, rfl⟩ := hv.2.2.form
    have c2 := hv.cells.2.2.1
    have HV := Lib.hid hv
    have HX := Lib.hid hx
    have HR := Lib.hid hR
    have HK0 := Lib.hid K0
    have HK1 := Lib.hid K1
    have HK2 := Lib.hid K2
    clear hv hx hR hup K0 K1 K2 G0 G1 G2
    go_wp2
    refine leaves_cons (f := 18) (args := #[.pointer (some ⟨w.heap.size, 0, none⟩), .pointer (some ⟨w.heap.size + 1, 0, none⟩), .pointer (some ⟨w.heap.size + 1 + 1, 0, none⟩)]) (by simp) rfl ?_
    refine (catch_idle _ _ _ _).mono ?_
    rintro e u' w' ⟨rfl, rfl, rfl⟩
    have hp : ParseEnd w (parseAll E.l) (.returned (.tuple #[.agg #[.slice p n d], .int .i64 0, .int .i64 0])) (((w2.setCell ⟨w.heap.size, 0, none⟩ (.slice p n d)).setCell ⟨w.heap.size + 1, 0, none⟩ (.int .i64 0)).setCell ⟨w.heap.size + 1 + 1, 0, none⟩ (.int .i64 0)) := by
      have hpa : parseAll E.l = (s'.nodes, 0, 0) := by unfold parseAll; rw [if_pos HE.out, HR.out]
      rw [hpa]
      have hxb : Below w.heap.size w w2 := by
        have h1 := HB.out
        refine ⟨HX.out.os.trans h1.os, HX.out.tape.trans h1.tape, HX.out.output.trans h1.output, by omega, fun k hk => ?_⟩
        have hk1 : k < w1.heap.size := Nat.lt_of_lt_of_le hk h1.size
        rw [HX.out.block k (by rw [World.size_alloc]; omega) (.inl hk), Below.heap_alloc _ _ _ hk1]
        exact h1.block k hk
      refine ⟨_, rfl, ?_, ((hxb.setCell (Nat.le_refl _) _).setCell (Nat.le_succ _) _).setCell (by show w.heap.size ≤ w.heap.size + 1 + 1; omega) _⟩
      refine NodesAt.put3 (X := fun b => b = w.heap.size + 1) HV.out.2.2 (fun k h0 h1 h2 => ?_) HK0.out HK1.out HK2.out rfl
      rw [Below.heap_setCell _ _ _ _ h2, Below.heap_setCell _ _ _ _ h1, Below.heap_setCell _ _ _ _ h0]
    have HP := Lib.hid hp
    clear hp
    simp [Leaves, settle, results, Tryd.results10, go_sem, q0, q1, q2]
    exact HP.out
end Go.Proofs.YteggenldmkbhiaaDoor.Parse
