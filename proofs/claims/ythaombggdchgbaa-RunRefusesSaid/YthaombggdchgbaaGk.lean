/- How many ArrayParams each function has: the program's handed. -/
import Derived.Test.YthaombggdchgbaaGj
import Derived.Deep.AppendLies
namespace Go.Proofs.Ythaombggdchgbaa.Graph
open Go.RowKit

def apV (g : PGr) : Value := .int .i64 (apN g.arrays)
theorem row_below {w w' : World} {B : Nat} {e : TypeId} {size : Nat} {v : Value} {n : Nat} {xs : List Value} (h : w.ownsRow B e size v n xs) (hx : Below w.heap.size w w') : w'.ownsRow B e size v n xs := by
  obtain ⟨h1, h2⟩ := h
  refine ⟨h1, ?_⟩
  rcases h2 with h2 | ⟨g, cap, cur, h3, h4, h5, h6⟩
  · exact .inl h2
  · refine .inr ⟨g, cap, cur, h3, h4, ?_, h6⟩
    have hg : g < w.heap.size := by
      rcases Nat.lt_or_ge g w.heap.size with h | h
      · exact h
      · rw [Array.getElem?_eq_none h] at h5; cases h5
    rw [hx.block g hg]; exact h5
theorem info_int : (Try.prog.info? 3).map (fun i => (i.zero, i.size, i.bytes)) = some (some (.int .i64 0), 1, 8) := by kernel_rfl
theorem info_parts {P : Program} {t : TypeId} {z : Value} {s b : Nat} (h : (P.info? t).map (fun i => (i.zero, i.size, i.bytes)) = some (some z, s, b)) : ∃ i, P.info? t = some i ∧ i.zero = some z ∧ i.size = s ∧ i.bytes = b := by
  obtain ⟨i, h1, h2⟩ := Option.map_eq_some_iff.1 h
  injection h2 with h2 h3
  injection h3 with h3 h4
  exact ⟨i, h1, h2, h3, h4⟩
theorem heap_new (w : World) (o : Obj) : (w.alloc o).heap[w.heap.size]? = some o := by unfold World.alloc; exact Array.getElem?_push_size
set_option maxHeartbeats 4000000 in
set_option maxRecDepth 100000 in
theorem handed_any (M : PMod) (vg vr vf : Value) (w : World) (hM : ModL w vg vr vf M) (hn : M.funcs.length ≤ 60) :
    Calls Try.prog 16 #[modV M vg vr vf] w fun e w' => ∃ v, e = .returned v ∧ w'.ownsRow w.heap.size 3 1 v M.funcs.length (M.funcs.map apV) ∧ Below w.heap.size w w' := by
  obtain ⟨gp, gc, rfl⟩ := hM.globals.form
  obtain ⟨rp, rc, rfl⟩ := hM.arrays.form
  have HF := Lib.hid hM.funcs
  obtain ⟨fp, fc, rfl⟩ := hM.funcs.form
  unfold modV
  obtain ⟨l, hl⟩ : ∃ l, l = M.funcs := ⟨_, rfl⟩
  rw [← hl] at hn HF ⊢
  obtain ⟨n, hN⟩ : ∃ n, n = l.length := ⟨_, rfl⟩
  rw [← hN] at hn HF
  rw [← hN]
  have HN := Lib.hid hN
  have p1 : (n : Int) ≤ 60 := by omega
  clear hM hl hN
  go_enter Try.func16, Try.ntmps16
  go_wp2
  go_loopw [3, 9] (fun v i wr => ∃ k : Nat, k ≤ n ∧ i = .int .i64 k ∧ Hid (wr.ownsRow w.heap.size 3 1 v k ((l.take k).map apV)) ∧ Below w.heap.size w wr) (fun _ i _ => n - (intOf i).toNat)
  case atStart => exact ⟨0, Nat.zero_le _, rfl, Lib.hid (World.ownsRow_nil _ _ _ _), by go_simp; exact below_alloc w _⟩
  case round =>
    obtain ⟨k, hk, rfl, HV, hbw⟩ := hrel
    have HBW := Lib.hid hbw
    by_cases hlt : k < n
    · obtain ⟨t, ht⟩ := getN HN.out hlt
      obtain ⟨g, o, cap, hv, hcap, hgl, _⟩ := SlR.form2 HF.out (by have := HN.out; omega)
      injection hv with hv hvn hv2
      clear hvn
      subst hv hv2
      obtain ⟨pp, pc, ap, ac, bp, bc, c0, c1, c2, c3, hgl2, l0⟩ := gr_at HF.out hbw ht
      have hpar := fun (w' : World) (hb : Below wr.heap.size wr w') => arrayParams_any t _ _ _ w' (hgl2.below hb)
      unfold grV at hpar
      have HPAR := Lib.hid hpar
      have HTK : Hid ((l.take (k + 1)).map apV = (l.take k).map apV ++ [.int .i64 (apN t.arrays)]) := Lib.hid (by rw [List.take_add_one, ht, Option.toList_some, List.map_append]; rfl)
      have k0 : (0 : Int) ≤ k := by omega
      have k1 : (k : Int) < n := by omega
      have k2 : (n : Int) ≤ fc := by have := HN.out; omega
      clear hgl2 hpar ht hbw hcap
      have HI := Lib.hid (info_parts info_int)
      have HH := Lib.hid hn
      go_wp2_with (first
        | (go_at_call 31; refine (HPAR.out _ (below_alloc wr _)).mono ?_; rintro e w3 ⟨rfl, h3⟩; have H3 := Lib.hid (below_then (below_alloc wr _) h3); clear h3)
        | (at_builtin
           obtain ⟨i0, hi, hz0, hz1, hz2⟩ := HI.out
           have hr := row_below (row_below HV.out H3.out) (below_alloc _ (.cells #[.int .i64 (apN t.arrays)] 3))
           have hb4 := below_then H3.out (below_alloc _ (.cells #[.int .i64 (apN t.arrays)] 3))
           refine wpList_append_lies _ (by rfl) _ _ 23 (by rfl) w.heap.size 3 i0 _ 1 8 Try.underlying23 hi hz0 hz1 hz2 rfl (by omega) _ k _ (by rfl) hr ⟨w3.heap.size, 0, none⟩ 1 1 [.int .i64 (apN t.arrays)] (by rfl) rfl
             (World.news_of_block (cs := #[.int .i64 (apN t.arrays)]) (t := 3) (fr := (0, 0)) (heap_new w3 _)) (by simp [Value.oneCell']) (by omega) (by unfold maxLen; have := HH.out; omega) (by have := HH.out; omega) (below_then HBW.out hb4).size _ rfl ?_
           intro g5 c5 w5 h5 h6 _ _
           have H5 := Lib.hid h5
           have H6 := Lib.hid (Below.grown (below_then HBW.out hb4) h6 (below_then HBW.out hb4).size (fun q hq => (World.ownsRow.lt hr q hq).1))
           clear h5 h6 hi hz0 hz1 hz2 hr hb4 i0))
      exact ⟨⟨k + 1, by omega, by go_num, by rw [HTK.out]; exact H5, H6.out⟩, by simp [intOf]; omega⟩
    · obtain rfl : k = n := by omega
      clear hbw
      go_wp2
      go_ret
      exact ⟨_, rfl, by have := HV.out; rw [HN.out, List.take_length] at this; rw [HN.out]; exact this, HBW.out⟩
end Go.Proofs.Ythaombggdchgbaa.Graph
