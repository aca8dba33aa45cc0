/-
  forkledgerref1.Tagged.
-/
import Derived.Test.YtpnmmfacnflngaaR1Sum
namespace Go.Proofs.Ytpnmmfacnflngaa
open Go.ChangeShapes Go.WideShapes Go.ChangeAt Go.RowKit Go.Fl

set_option maxRecDepth 10000 in
set_option maxHeartbeats 1000000 in
theorem rtagged_any {x : BitVec 64} (t : UInt8) (A : Option Addr) (l : List UInt8) (c : Nat) (hx : Hid (sumF (t :: l) = x)) (_hc : l.length ≤ c) (hm : l.length ≤ 140737488351232) (w : World) (hr : RB w w.heap.size A l) :
    Calls Try.prog 35 #[B t, .slice A l.length c] w fun e w' => e = .returned (nm x) ∧ Below w.heap.size w w' := by
  obtain ⟨i0, hi, hz0, hz1, hz2⟩ := info_parts info_byte
  have hz := Is.new w 24 #[B 0, B 0, B 0, B 0, B 0, B 0, B 0, B 0]
  have hF := (Fr.refl w).alloc (.cells #[B 0, B 0, B 0, B 0, B 0, B 0, B 0, B 0] 24)
  have HR := Lib.hid hr
  clear hr
  have HI := Lib.hid hi
  have HZ0 := Lib.hid hz0
  have HZ1 := Lib.hid hz1
  have HZ2 := Lib.hid hz2
  clear hi hz0 hz1 hz2
  go_enter Try.func35, Try.ntmps35
  go_wp2_with (first
    | (at_make; refine wpList_make_own _ rfl _ _ 29 rfl (w.heap.size + 1) 5 i0 (.int .u8 0) 1 Try.underlying29 HI.out HZ0.out HZ1.out .i64 .i64 160 160 rfl rfl rfl (by rw [HZ2.out]; omega) (by simp [maxLen]) (by simp) ?_; intro w1 ho1 hg1; have hob1 := ob_make ho1 (g := w.heap.size + 1) (by simp); have hF1 := hF.grown hg1 (by simp); have hz1 := hz.grown hg1 (by simp); clear ho1 hg1)
    | (at_builtin; refine wpList_append_ob rfl (.tmp 5) (.tmp 7) 29 rfl (w.heap.size + 1) 5 i0 Try.underlying29 HI.out HZ0.out HZ1.out HZ2.out _ [] rfl (hob1.keep ((Below.refl _ _).alloc (Nat.le_refl _) _)) _ (some ⟨w1.heap.size, 0, none⟩) [t] 1 1 rfl rfl (rb_build w1 5 t) (by simp) (by (have := hF1.2; simp; omega)) ?_; intro v2 w2 hob2 hg2 hat2; have hF2 := (hF1.alloc _).grown hg2 (fun k hk => by (have := hob1.own k hk; omega)); have hz2 := (hz1.old _).grown hg2 (fun k hk => by (have := hob1.own k hk; omega)); clear hg2 hat2)
    | (at_builtin; refine wpList_append_ob rfl (.tmp 8) (.tmp 9) 29 rfl (w.heap.size + 1) 5 i0 Try.underlying29 HI.out HZ0.out HZ1.out HZ2.out _ ([] ++ [t]) rfl hob2 _ A l l.length c rfl rfl (carry HR.out (Fr.refl w) hF2) (by simp; omega) (by (have := hF2.2; omega)) ?_; intro v3 w3 hob3 hg3 hat3; have hF3 := hF2.grown hg3 (fun k hk => by (have := hob2.own k hk; omega)); have hz3 := hz2.grown hg3 (fun k hk => by (have := hob2.own k hk; omega)); clear hg3 hat3; obtain ⟨A3, n3, c3, rfl, HN, hc3, hm3, HR3⟩ := (tag_ob hob3).form_n; clear hob3)
    | (go_at_call 45; refine (rsum_n _ (t :: l) _ _ HN hx hc3 hm3 (by simp; omega) _ HR3.out).mono ?_; rintro e w4 ⟨rfl, hb⟩; have hF4 := hF3.next hb; have hz4 := hz3.next hb; clear hb)
    | (refine wpList_store_is rfl 24 (.tmp 4) (.tmp 11) rfl w.heap.size 24 _ (nmC _) rfl rfl hz4 (nmC_size _) name_info (nmC_one _) ?_; intro w6 hz7 hb6))
  exact ret_is rfl w.heap.size 24 _ rfl hz7 Try.underlying24 rfl name_info rfl ⟨rfl, hF4.1.trans hb6⟩

theorem rtagged_n {x : BitVec 64} (t : UInt8) (A : Option Addr) (l : List UInt8) (n c : Nat) (hn : n = l.length) (hx : Hid (sumF (t :: l) = x)) (hc : l.length ≤ c) (hm : l.length ≤ 140737488351232) (w : World) (hr : RB w w.heap.size A l) :
    Calls Try.prog 35 #[B t, .slice A n c] w fun e w' => e = .returned (nm x) ∧ Below w.heap.size w w' := by
  subst hn
  exact rtagged_any t A l c hx hc hm w hr
end Go.Proofs.Ytpnmmfacnflngaa
