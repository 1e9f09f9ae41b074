/- The module of run's 'live': Check's small functions at it. -/
import Derived.Test.YthaombggdchgbaaHd
namespace Go.Proofs.Ythaombggdchgbaa.Graph
open Go.RowKit

theorem quiet_add {P : Program} {f : FuncId} {args : Array Value} {w : World} {a n : Nat} {v : Value}
    (h : Calls P f args (w.drewN (a + n)) fun e w' => e = .returned v ∧ ∃ m, w' = (w.drewN (a + n)).drewN m) :
    Calls P f args (w.drewN (a + n)) fun e w'' => e = .returned v ∧ ∃ m, w'' = w.drewN (a + m) :=
  h.mono fun _ _ ⟨he, m, hm⟩ => ⟨he, n + m, by rw [hm, World.drewN_drewN, Nat.add_assoc]⟩
abbrev liveI (op : Int) : PIns := ⟨op, 0, 0, 0, 0, 0, [], []⟩
abbrev jumpE : PEnd := ⟨1, 0, 0, 0, 0, 0, 0, [], []⟩
abbrev liveB : PBlk := ⟨[liveI 30, liveI 31], jumpE⟩
abbrev liveG : PGr := ⟨[], 1, [], [liveB]⟩
abbrev liveM : PMod := ⟨[], [], [liveG], 0⟩
abbrev g1V (pp ap bp : Option Addr) (np na nb pc ac bc : Nat) : Value := .agg #[.slice pp np pc, .int .i64 1, .slice ap na ac, .slice bp nb bc]
theorem only_zero (th : Int) (w : World) : Calls Try.prog 64 #[zV 0, .int .i64 th] w (Is (zV 0) w) := by
  have h := only_any 0 0 0 0 0 0 0 0 0 0 0 0 th w (by omega)
  simp only [keep_zero, fV] at h
  exact h
set_option maxHeartbeats 2000000 in
set_option maxRecDepth 100000 in
theorem temps_live (op th : Int) (hop : op = 30 ∧ th = 2 ∨ op = 31 ∧ th = 4) (pp ap bp : Option Addr) (np na nb pc ac bc : Nat) (b o : Nat) (w : World) (h1 : w.cell? ⟨b, o, none⟩ = some (.int .i64 op)) (h2 : w.cell? ⟨b, o + 1, none⟩ = some (.int .i64 0)) (h3 : w.cell? ⟨b, o + 2, none⟩ = some (.int .i64 0)) (hb : b < w.heap.size) :
    Calls Try.prog 65 #[g1V pp ap bp np na nb pc ac bc, .pointer (some ⟨b, o, none⟩), .int .i64 th] w (Is (.bool true) w) := by
  have HC : Hid (∀ w, Calls Try.prog 30 #[.int .i64 0, .int .i64 1] w fun e w' => e = .returned (.bool true) ∧ ∃ m, w' = w.drewN m) := Lib.hid (fun w => below_q 0 1 w)
  rcases hop with ⟨rfl, rfl⟩ | ⟨rfl, rfl⟩
  · have e2 : bits BinOp.and IntKind.i64 2 2 = 2 := by kernel_rfl
    have e4 : bits BinOp.and IntKind.i64 2 4 = 0 := by kernel_rfl
    have e8 : bits BinOp.and IntKind.i64 2 8 = 0 := by kernel_rfl
    go_enter Try.func65, Try.ntmps65
    go_wp2
    go_quiet (first | (go_at_call 30; exact Calls.quiet_of (HC.out _)))
    go_wp2
    obtain ⟨w1, hw1⟩ : ∃ w1, w1 = (w.alloc (.cells #[.slice pp np pc, .int .i64 1, .slice ap na ac, .slice bp nb bc] 44)).drewN nq := ⟨_, rfl⟩
    have HB1 : Hid (Below w.heap.size w w1) := Lib.hid (by rw [hw1]; exact below_drew (below_alloc w _) _)
    have HY1 : Hid (w1.cell? ⟨w.heap.size, 1, none⟩ = some (.int .i64 1)) := Lib.hid (by rw [hw1]; show World.cell? (World.alloc _ _) _ = _; simp [World.cell?_alloc_new])
    have HL1 : Hid (w.heap.size < w1.heap.size) := Lib.hid (by rw [hw1]; show w.heap.size < (World.alloc _ _).heap.size; simp [World.size_alloc])
    rw [← hw1]
    clear hw1
    have y1 : w1.cell? ⟨w.heap.size, 1, none⟩ = some (.int .i64 1) := HY1.out
    have ly : w.heap.size < w1.heap.size := HL1.out
    have c3 : w1.cell? ⟨b, o + 2, none⟩ = some (.int .i64 0) := (HB1.out.cell (p := ⟨b, o + 2, none⟩) hb).trans h3
    have l1 : b < w1.heap.size := Nat.lt_of_lt_of_le hb HB1.out.size
    go_quiet (fail)
    go_wp2
    obtain ⟨w2, hw2⟩ : ∃ w2, w2 = w1.drewN nq := ⟨_, rfl⟩
    have HB2 : Hid (Below w.heap.size w w2) := Lib.hid (by rw [hw2]; exact below_drew HB1.out _)
    rw [← hw2]
    clear hw2
    go_quiet (fail)
    go_wp2
    go_ret
    exact ⟨rfl, below_drew HB2.out _⟩
  · have e2 : bits BinOp.and IntKind.i64 4 2 = 0 := by kernel_rfl
    have e4 : bits BinOp.and IntKind.i64 4 4 = 4 := by kernel_rfl
    have e8 : bits BinOp.and IntKind.i64 4 8 = 0 := by kernel_rfl
    go_enter Try.func65, Try.ntmps65
    go_wp2
    go_quiet (fail)
    go_wp2
    obtain ⟨w1, hw1⟩ : ∃ w1, w1 = (w.alloc (.cells #[.slice pp np pc, .int .i64 1, .slice ap na ac, .slice bp nb bc] 44)).drewN nq := ⟨_, rfl⟩
    have HB1 : Hid (Below w.heap.size w w1) := Lib.hid (by rw [hw1]; exact below_drew (below_alloc w _) _)
    have HY1 : Hid (w1.cell? ⟨w.heap.size, 1, none⟩ = some (.int .i64 1)) := Lib.hid (by rw [hw1]; show World.cell? (World.alloc _ _) _ = _; simp [World.cell?_alloc_new])
    have HL1 : Hid (w.heap.size < w1.heap.size) := Lib.hid (by rw [hw1]; show w.heap.size < (World.alloc _ _).heap.size; simp [World.size_alloc])
    rw [← hw1]
    clear hw1
    have y1 : w1.cell? ⟨w.heap.size, 1, none⟩ = some (.int .i64 1) := HY1.out
    have ly : w.heap.size < w1.heap.size := HL1.out
    have c3 : w1.cell? ⟨b, o + 2, none⟩ = some (.int .i64 0) := (HB1.out.cell (p := ⟨b, o + 2, none⟩) hb).trans h3
    have l1 : b < w1.heap.size := Nat.lt_of_lt_of_le hb HB1.out.size
    go_quiet (first | (go_at_call 30; exact Calls.quiet_of (HC.out _)))
    go_wp2
    obtain ⟨w2, hw2⟩ : ∃ w2, w2 = w1.drewN nq := ⟨_, rfl⟩
    have HB2 : Hid (Below w.heap.size w w2) := Lib.hid (by rw [hw2]; exact below_drew HB1.out _)
    rw [← hw2]
    clear hw2
    go_quiet (fail)
    go_wp2
    go_ret
    exact ⟨rfl, below_drew HB2.out _⟩
theorem insF_live (op : Int) (b o : Nat) (va vr : Value) (w : World) (h : InsR w b o (liveI op) va vr) (hb : b < w.heap.size) :
    Calls Try.prog 63 #[.pointer (some ⟨b, o, none⟩)] w (Is (zV 0) w) := insFields_any (liveI op) b o va vr w h hb
set_option maxHeartbeats 4000000 in
set_option maxRecDepth 100000 in
theorem ins_live (op th : Int) (hop : op = 30 ∧ th = 2 ∨ op = 31 ∧ th = 4) (cb : Nat) (pp ap bp : Option Addr) (np na nb pc ac bc : Nat) (b o : Nat) (va vr : Value) (w : World) (h : InsR w b o (liveI op) va vr) (hb : b < w.heap.size) :
    Calls Try.prog 35 #[.pointer (some ⟨cb, 0, none⟩), g1V pp ap bp np na nb pc ac bc, .pointer (some ⟨b, o, none⟩)] w (Is (.int .i64 0) w) := by
  have HI := Lib.hid (fun (w' : World) (hw : Below w.heap.size w w') => h.below hb hw)
  have HK : Hid (∀ w, Calls Try.prog 62 #[.int .i64 op] w fun e w' => e = .returned (.int .i64 th) ∧ w' = w) := Lib.hid (fun w => by
    have h := insHas_any op w
    rcases hop with ⟨rfl, rfl⟩ | ⟨rfl, rfl⟩ <;> exact h)
  have HO := Lib.hid only_zero
  have HF := Lib.hid (insF_live op)
  have HT := Lib.hid (temps_live op th hop)
  have c0 : w.cell? ⟨b, o, none⟩ = some (.int .i64 op) := h.op
  have hr : op = 30 ∨ op = 31 := by omega
  clear h hop
  rcases hr with rfl | rfl
  all_goals
    go_enter Try.func35, Try.ntmps35
    go_wp2_with (first
      | (go_at_call 62; refine (HK.out _).mono ?_; rintro e w2 ⟨rfl, rfl⟩)
      | (go_at_call 63; refine (HF.out b o va vr _ (HI.out _ (below_alloc w _)) (Nat.lt_of_lt_of_le hb (below_alloc w _).size)).mono ?_; rintro e w2 ⟨rfl, h2⟩
         have B1 : Box4 w2 w.heap.size (.slice pp np pc) (.int .i64 1) (.slice ap na ac) (.slice bp nb bc) := Box4.below ⟨by go_simp, by go_simp, by go_simp, by go_simp, by go_simp⟩ h2
         have H2 := Lib.hid (below_then (below_alloc w _) h2); have HB1 := Lib.hid B1; clear h2 B1))
    have hsz : w2.heap.size < (w2.alloc (.cells #[.int .i64 0, .int .i64 0, .int .i64 0, .int .i64 0, .int .i64 0, .int .u32 0, .int .i64 0, .int .i64 0, .int .i64 0, .int .i64 0, .int .i64 0, .int .i64 0] 114)).heap.size := by rw [World.size_alloc]; omega
    go_region_held3 (fun w' => w'.cell? ⟨w2.heap.size, 0, none⟩ = some (.int .i64 0) ∧ w'.cell? ⟨w2.heap.size, 1, none⟩ = some (.int .i64 0) ∧ w'.cell? ⟨w2.heap.size, 2, none⟩ = some (.int .i64 0) ∧ w'.cell? ⟨w2.heap.size, 3, none⟩ = some (.int .i64 0) ∧ w'.cell? ⟨w2.heap.size, 4, none⟩ = some (.int .i64 0) ∧ w'.cell? ⟨w2.heap.size, 5, none⟩ = some (.int .u32 0) ∧ w'.cell? ⟨w2.heap.size, 6, none⟩ = some (.int .i64 0) ∧ w'.cell? ⟨w2.heap.size, 7, none⟩ = some (.int .i64 0) ∧ w'.cell? ⟨w2.heap.size, 8, none⟩ = some (.int .i64 0) ∧ w'.cell? ⟨w2.heap.size, 9, none⟩ = some (.int .i64 0) ∧ w'.cell? ⟨w2.heap.size, 10, none⟩ = some (.int .i64 0) ∧ w'.cell? ⟨w2.heap.size, 11, none⟩ = some (.int .i64 0))
      (first
        | go_keep
        | (refine ⟨?_, ?_, ?_, ?_, ?_, ?_, ?_, ?_, ?_, ?_, ?_, ?_⟩ <;> (rw [hb3.cell (by simp [World.size_alloc])]; simp [World.cell?_alloc_new])))
      ((go_at_call 64; refine (HO.out _ _).mono ?_; rintro e w3 ⟨rfl, hb3⟩))
    all_goals
      have h3 : Below w2.heap.size w2 w3 := (below_alloc w2 _).drew.trans (hb3.mono (by simp [World.size_alloc]))
      have H3 := Lib.hid (below_then H2.out h3)
      have HB3 := Lib.hid (HB1.out.below h3)
      clear hb3 h3 hsz
      have hi := HI.out w3 H3.out
      have l3 : b < w3.heap.size := Nat.lt_of_lt_of_le hb H3.out.size
      have d0 := hi.op
      have d1 := hi.d
      have d2 := hi.fa
      have HT3 := Lib.hid (HT.out pp ap bp np na nb pc ac bc b o w3 d0 d1 d2 l3)
      obtain ⟨y0, y1, y2, y3, y4⟩ := HB3.out
      clear hi d1 d2
      go_wp2_with (go_at_call 65; refine HT3.out.mono ?_; rintro e w4 ⟨rfl, h4⟩; have H4 := Lib.hid (below_then H3.out h4); have d4 : w4.cell? ⟨b, o, none⟩ = _ := (h4.cell (p := ⟨b, o, none⟩) l3).trans d0; have l4 : b < w4.heap.size := Nat.lt_of_lt_of_le l3 h4.size; clear h4)
      go_ret
      exact ⟨rfl, H4.out⟩
set_option maxHeartbeats 4000000 in
set_option maxRecDepth 100000 in
theorem end_jump (cb : Nat) (pp ap bp : Option Addr) (np na pc ac bc : Nat) (b o : Nat) (va vr : Value) (w : World) (h : EndR w b o jumpE va vr) (hb : b < w.heap.size) :
    Calls Try.prog 36 #[.pointer (some ⟨cb, 0, none⟩), g1V pp ap bp np na 1 pc ac bc, .pointer (some ⟨b, o, none⟩)] w (Is (.bool true) w) := by
  have HI := Lib.hid (fun (w' : World) (hw : Below w.heap.size w w') => h.below hb hw)
  have HK : Hid (∀ w, Calls Try.prog 68 #[.int .i64 1] w fun e w' => e = .returned (.int .i64 256) ∧ w' = w) := Lib.hid (fun w => endHas_any 1 w)
  have HC : Hid (∀ w, Calls Try.prog 30 #[.int .i64 0, .int .i64 1] w fun e w' => e = .returned (.bool true) ∧ ∃ m, w' = w.drewN m) := Lib.hid (fun w => below_q 0 1 w)
  have HO := Lib.hid only_zero
  have HF : Hid (∀ (b o : Nat) (va vr : Value) (w : World), EndR w b o jumpE va vr → b < w.heap.size → Calls Try.prog 67 #[.pointer (some ⟨b, o, none⟩)] w (Is (zV 0) w)) := Lib.hid (endFields_any jumpE)
  have c0 : w.cell? ⟨b, o, none⟩ = some (.int .i64 1) := h.kind
  clear h
  go_enter Try.func36, Try.ntmps36
  go_wp2_with (first
    | (go_at_call 67; refine (HF.out b o va vr _ (HI.out _ (below_alloc w _)) (Nat.lt_of_lt_of_le hb (below_alloc w _).size)).mono ?_; rintro e w2 ⟨rfl, h2⟩
       have B1 : Box4 w2 w.heap.size (.slice pp np pc) (.int .i64 1) (.slice ap na ac) (.slice bp 1 bc) := Box4.below ⟨by go_simp, by go_simp, by go_simp, by go_simp, by go_simp⟩ h2
       have H2 := Lib.hid (below_then (below_alloc w _) h2); have HB1 := Lib.hid B1; clear h2 B1))
  have hsz : w2.heap.size < (w2.alloc (.cells #[.int .i64 0, .int .i64 0, .int .i64 0, .int .i64 0, .int .i64 0, .int .u32 0, .int .i64 0, .int .i64 0, .int .i64 0, .int .i64 0, .int .i64 0, .int .i64 0] 114)).heap.size := by rw [World.size_alloc]; omega
  have hd : (w2.alloc (.cells #[.int .i64 0, .int .i64 0, .int .i64 0, .int .i64 0, .int .i64 0, .int .u32 0, .int .i64 0, .int .i64 0, .int .i64 0, .int .i64 0, .int .i64 0, .int .i64 0] 114)).cell? ⟨b, o, none⟩ = some (.int .i64 1) := (HI.out _ (H2.out.alloc H2.out.size _)).kind
  have hl : b < (w2.alloc (.cells #[.int .i64 0, .int .i64 0, .int .i64 0, .int .i64 0, .int .i64 0, .int .u32 0, .int .i64 0, .int .i64 0, .int .i64 0, .int .i64 0, .int .i64 0, .int .i64 0] 114)).heap.size := Nat.lt_of_lt_of_le hb (H2.out.alloc H2.out.size _).size
  go_region_held3 (fun w' => w'.cell? ⟨w2.heap.size, 0, none⟩ = some (.int .i64 0) ∧ w'.cell? ⟨w2.heap.size, 1, none⟩ = some (.int .i64 0) ∧ w'.cell? ⟨w2.heap.size, 2, none⟩ = some (.int .i64 0) ∧ w'.cell? ⟨w2.heap.size, 3, none⟩ = some (.int .i64 0) ∧ w'.cell? ⟨w2.heap.size, 4, none⟩ = some (.int .i64 0) ∧ w'.cell? ⟨w2.heap.size, 5, none⟩ = some (.int .u32 0) ∧ w'.cell? ⟨w2.heap.size, 6, none⟩ = some (.int .i64 0) ∧ w'.cell? ⟨w2.heap.size, 7, none⟩ = some (.int .i64 0) ∧ w'.cell? ⟨w2.heap.size, 8, none⟩ = some (.int .i64 0) ∧ w'.cell? ⟨w2.heap.size, 9, none⟩ = some (.int .i64 0) ∧ w'.cell? ⟨w2.heap.size, 10, none⟩ = some (.int .i64 0) ∧ w'.cell? ⟨w2.heap.size, 11, none⟩ = some (.int .i64 0) ∧ w'.cell? ⟨b, o, none⟩ = some (.int .i64 1))
    (first
      | go_keep
      | (refine ⟨?_, ?_, ?_, ?_, ?_, ?_, ?_, ?_, ?_, ?_, ?_, ?_, ?_⟩ <;> (rw [hb3.cell (by first | exact hl | exact hsz)]; first | exact hd | simp [World.cell?_alloc_new])))
    (first
      | (go_at_call 68; refine (HK.out _).mono ?_; rintro e w4 ⟨rfl, rfl⟩)
      | (go_at_call 64; refine (HO.out _ _).mono ?_; rintro e w3 ⟨rfl, hb3⟩))
  all_goals
    have h3 : Below w2.heap.size w2 w3 := (below_alloc w2 _).drew.trans (hb3.mono (by simp [World.size_alloc]))
    have H3 := Lib.hid (below_then H2.out h3)
    have HB3 := Lib.hid (HB1.out.below h3)
    clear hb3 h3 hsz hd hl
    have hi := HI.out w3 H3.out
    have l3 : b < w3.heap.size := Nat.lt_of_lt_of_le hb H3.out.size
    have d0 := hi.kind
    have d1 := hi.to
    obtain ⟨y0, y1, y2, y3, y4⟩ := HB3.out
    clear hi
    go_wp2
    go_quiet (first | (go_at_call 30; exact Calls.quiet_of (HC.out _)))
    go_wp2
    go_ret
    exact ⟨rfl, below_drew H3.out nq⟩
end Go.Proofs.Ythaombggdchgbaa.Graph
