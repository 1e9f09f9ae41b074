/- Whether a line's list fits; what is wrong with a line; the labels it goes to: the program's own answers. No condition but that lists lie as they say. -/
import Derived.Test.YtmnhafncdblklaaDoorAf
import Derived.IntWalk
namespace Go.Proofs.YtmnhafncdblklaaDoor.Relax
open Go.RowKit Go.Proofs.YtmnhafncdblklaaDoor.Enc Go.Proofs.YtmnhafncdblklaaDoor.Graph Go.Maps

theorem all_take {f : Int → Bool} {l : List Int} {k : Nat} {t : Int} (h : (l.take k).all f = true) (ht : l[k]? = some t) (hf : f t = true) : (l.take (k + 1)).all f = true := by
  rw [List.take_add_one, ht, Option.toList_some, List.all_append, h]; simp [hf]
theorem all_no {f : Int → Bool} {l : List Int} {k : Nat} {t : Int} (ht : l[k]? = some t) (hf : f t = false) : l.all f = false := by
  rw [List.all_eq_false]; exact ⟨t, List.mem_of_getElem? ht, by simp [hf]⟩
set_option maxHeartbeats 4000000 in
set_option maxRecDepth 100000 in
theorem listFits_prog (x : PL) (p : Option Addr) (c : Nat) (w : World) (hL : IntsR w (.slice p x.list.length c) x.list) (hl : x.list.length ≤ 100000000000000) :
    Calls Tryd.prog 61 #[lineV x p x.list.length c] w fun e w' => e = .returned (.bool (listFitsB x)) ∧ Below w.heap.size w w' := by
  obtain ⟨op, a, b, imm, nn, label, list⟩ := x
  obtain ⟨n, hn⟩ : ∃ n, n = list.length := ⟨_, rfl⟩
  simp only at hL hl
  unfold lineV
  simp only
  have HG := Lib.hid (show listFitsB ⟨op, a, b, imm, nn, label, list⟩ = if op = 42 then decide (1 ≤ list.length ∧ list.length ≤ 400) && list.all labelB else list.length == 0 by rfl)
  rw [← hn] at HG hL hl ⊢
  by_cases h0 : op = 42
  case neg =>
    have e1 : (op == 42) = false := by simpa using h0
    have e2 : (op != 42) = true := by simpa using h0
    have HG2 := Lib.hid (show listFitsB ⟨op, a, b, imm, nn, label, list⟩ = (n == 0) by rw [HG.out, if_neg h0])
    clear HG hL h0 hn
    go_enter Tryd.func61, Tryd.ntmps61
    go_wp2
    go_ret
    exact ⟨Relax.ret_bool (by rw [HG2.out]; rw [Bool.eq_iff_iff]; simp), below_one _ _⟩
  subst h0
  have HG2 := Lib.hid (show listFitsB ⟨42, a, b, imm, nn, label, list⟩ = (decide (1 ≤ n ∧ n ≤ 400) && list.all labelB) by rw [HG.out, if_pos rfl])
  clear HG
  have m0 : (n : Int) ≤ 100000000000000 := by omega
  have m1 : (0 : Int) ≤ n := by omega
  rcases Nat.eq_zero_or_pos n with hz | hz
  · subst hz
    clear hL hl hn
    go_enter Tryd.func61, Tryd.ntmps61
    go_wp2
    go_ret
    exact ⟨Relax.ret_bool (by rw [HG2.out]; rfl), below_one _ _⟩
  by_cases h4 : n ≤ 400
  case neg =>
    have e3 : ((n : Int) == 0) = false := by simp; omega
    have e4 : decide ((n : Int) > 400) = true := by simp; omega
    have e5 : decide ((400 : Int) < n) = true := by simp; omega
    have HQ := Lib.hid (show listFitsB ⟨42, a, b, imm, nn, label, list⟩ = false by rw [HG2.out, decide_eq_false (by omega)]; rfl)
    have hp : (0 : Int) < n := by omega
    have hq : (400 : Int) < n := by omega
    clear hL hl hn h4 hz HG2
    go_enter Tryd.func61, Tryd.ntmps61
    go_wp2
    go_ret
    exact ⟨Relax.ret_bool HQ.out.symm, below_one _ _⟩
  have HG3 := Lib.hid (show listFitsB ⟨42, a, b, imm, nn, label, list⟩ = list.all labelB by rw [HG2.out, decide_eq_true (by omega)]; rfl)
  obtain ⟨g, o, cap, h1, hcap, hgl, hc⟩ := SlR.form2 hL (by omega)
  injection h1 with h1 h2 h3
  subst h1 h3
  clear h2
  have HC := Lib.hid hc
  have HN := Lib.hid hn
  have e3 : ((n : Int) == 0) = false := by simp; omega
  have hp : (0 : Int) < n := by omega
  have hq : (n : Int) ≤ 400 := by omega
  obtain ⟨m3, m4⟩ := hcap
  clear hc hL hn HG2 hl
  go_enter Tryd.func61, Tryd.ntmps61
  go_wp2
  go_loopw [25] (fun i wr => ∃ k : Nat, k ≤ n ∧ i = .int .i64 k ∧ Hid ((list.take k).all labelB = true) ∧ Below w.heap.size w wr) (fun i _ => n - (intOf i).toNat)
  case atStart => exact ⟨0, Nat.zero_le _, rfl, Lib.hid rfl, by go_simp; exact below_one w _⟩
  case round =>
    obtain ⟨k, hk, rfl, HT, hbw⟩ := hrel
    by_cases hlt : k < n
    · obtain ⟨t, ht⟩ : ∃ t, list[k]? = some t := ⟨_, List.getElem?_eq_getElem (by rw [← HN.out]; exact hlt)⟩
      have c0 := HC.out k (by rw [← HN.out]; exact hlt) t ht
      rw [Nat.mul_one] at c0
      replace c0 := (hbw.cell (p := ⟨g, o + k, none⟩) hgl).trans c0
      have l0 : g < wr.heap.size := Nat.lt_of_lt_of_le hgl hbw.size
      obtain ⟨lb, hlb⟩ : ∃ lb, labelB t = lb := ⟨_, rfl⟩
      have HL := Lib.hid (fun w => hlb ▸ isLabel_prog t w)
      have HE := Lib.hid hlb
      have HX := Lib.hid ht
      have HBW := Lib.hid hbw
      have i0 : (0 : Int) ≤ k := by omega
      have i1 : (k : Int) < n := by omega
      clear hlb ht hbw
      cases lb
      · go_wp2_with (go_at_call 71; refine (HL.out _).mono ?_; rintro e w2 ⟨rfl, rfl⟩)
        go_ret
        exact ⟨Relax.ret_bool (by rw [HG3.out]; exact (all_no HX.out HE.out).symm), HBW.out⟩
      · go_wp2_with (go_at_call 71; refine (HL.out _).mono ?_; rintro e w2 ⟨rfl, rfl⟩)
        go_roundw
        case rel => exact ⟨k + 1, by omega, by go_num, Lib.hid (all_take HT.out HX.out HE.out), HBW.out⟩
        case measure => simp [intOf]; omega
    · have hkn : k = n := by omega
      subst hkn
      have i1 : ¬ ((k : Int) < (k : Int)) := by omega
      go_wp2
      go_ret
      exact ⟨Relax.ret_bool (by rw [HG3.out]; have := HT.out; rw [HN.out, List.take_length] at this; exact this.symm), hbw⟩
end Go.Proofs.YtmnhafncdblklaaDoor.Relax
