/-
  1 texts in one file: R3Fo2.
-/
import Derived.Test.YtjghengkpbokaaaG9

/-
  forkledgerref1's trees: Follow.
-/
namespace Go.Proofs.Ytjghengkpbokaaa
open Go.ChangeShapes Go.WideShapes Go.ChangeAt Go.RowKit Go.Fl

attribute [local go_sem] equal_nm eqGuard_nm

set_option maxRecDepth 10000 in
set_option maxHeartbeats 600000 in
theorem rFollow_no (w : World) (x : BitVec 64) (i n : Int) (A : Option Addr) (m c : Nat) (hm : m ≤ 17592186044160) (hi : I64 i) (hn : I64 n) (h : depthI i n < 0 ∨ depthI i n ≠ (m : Int)) :
    Calls Try.prog 36 #[nm x, .int .i64 i, .int .i64 n, .slice A m c] w fun e w' => e = .returned (.tuple #[nm 0, .bool false]) ∧ Below w.heap.size w w' := by
  obtain ⟨hl, hz, hF, hW⟩ := folW_facts w x
  obtain ⟨D, hD⟩ : ∃ D, depthI i n = D := ⟨_, rfl⟩
  rw [hD] at h
  have HD := Lib.hid hD
  clear hD
  by_cases h0 : D < 0
  · go_enter Try.func36, Try.ntmps36
    go_wp2_with fail
    refine (rdepth_any i n hi hn (folW w x)).mono ?_
    rintro e w1 ⟨rfl, rfl⟩
    rw [HD.out]
    generalize folW w x = W at *
    go_wp2_with (refine wpList_store_is rfl 30 (.tmp 8) (.tmp 22) rfl (w.heap.size + 1) 30 _ (nmC 0) rfl rfl hz (nmC_size _) name_info (nmC_one _) ?_; intro w6 hz7 hb6)
    exact ret_is_tmp rfl (w.heap.size + 1) 30 _ rfl hz7 Try.underlying30 rfl name_info rfl ⟨rfl, hF.1.trans (hb6.mono (by omega))⟩
  · have h1 : D ≠ (m : Int) := by omega
    have b1 : (D == (m : Int)) = false := by rw [beq_eq_false_iff_ne]; exact h1
    have b2 : (D != (m : Int)) = true := by rw [bne, b1]; rfl
    have b3 : decide (D = (m : Int)) = false := by rw [decide_eq_false_iff_not]; exact h1
    clear h
    go_enter Try.func36, Try.ntmps36
    go_wp2_with fail
    refine (rdepth_any i n hi hn (folW w x)).mono ?_
    rintro e w1 ⟨rfl, rfl⟩
    rw [HD.out]
    generalize folW w x = W at *
    go_wp2_with (refine wpList_store_is rfl 30 (.tmp 8) (.tmp 22) rfl (w.heap.size + 1) 30 _ (nmC 0) rfl rfl hz (nmC_size _) name_info (nmC_one _) ?_; intro w6 hz7 hb6)
    exact ret_is_tmp rfl (w.heap.size + 1) 30 _ rfl hz7 Try.underlying30 rfl name_info rfl ⟨rfl, hF.1.trans (hb6.mono (by omega))⟩

set_option maxRecDepth 10000 in
set_option maxHeartbeats 600000 in
theorem rFollow_yes (w : World) (x : BitVec 64) (i n : Nat) (A : Option Addr) (p : List (BitVec 64)) (c : Nat) (y : BitVec 64) (hin : i < n) (hn : n ≤ 9223372036854775807) (hp : p.length = depthF i n) (hy : Hid (followF x i n p = y)) (hc : p.length ≤ c) (hc63 : c ≤ 9223372036854775807) (hr : RN w w.heap.size A p) :
    Calls Try.prog 36 #[nm x, .int .i64 (i : Int), .int .i64 (n : Int), .slice A p.length c] w fun e w' => e = .returned (.tuple #[nm y, .bool true]) ∧ Below w.heap.size w w' := by
  obtain ⟨hl, hz, hF, hW⟩ := folW_facts w x
  have hd : depthI i n = (p.length : Int) := by unfold depthI; rw [if_pos (by omega), Int.toNat_natCast, Int.toNat_natCast, hp]
  have HD := Lib.hid hd
  have HR := Lib.hid hr
  have HP := Lib.hid hp
  have m0 : ¬ ((p.length : Int) < 0) := by omega
  clear hd hr hp
  go_enter Try.func36, Try.ntmps36
  go_wp2_with fail
  refine (rdepth_any i n ⟨by omega, by omega⟩ ⟨by omega, by omega⟩ (folW w x)).mono ?_
  rintro e w1 ⟨rfl, rfl⟩
  rw [HD.out]
  generalize folW w x = W at *
  have hlc := hl.cell
  go_wp2_with (first
    | (go_at_call 58; refine (rfollow_any n x i A p _ c _ _ y rfl rfl hin hn rfl HP.out hy hc hc63 _ ((HR.out.keep hF.1).mono (by (have := hF.2; omega)))).mono ?_; rintro e w2 ⟨rfl, hb2⟩; have hF2 := hF.next hb2; have hz2 := hz.next hb2)
    | (refine wpList_store_is rfl 30 (.tmp 8) (.tmp 27) rfl (w.heap.size + 1) 30 _ (nmC y) rfl rfl hz2 (nmC_size _) name_info (nmC_one _) ?_; intro w6 hz7 hb6))
  exact ret_is_tmp rfl (w.heap.size + 1) 30 _ rfl hz7 Try.underlying30 rfl name_info rfl ⟨rfl, hF2.1.trans (hb6.mono (by omega))⟩

theorem rFollow_any (w : World) (x : BitVec 64) (i n : Int) (v : Value) (p : List (BitVec 64)) (r : BitVec 64 × Bool) (hv : VN w v p) (hp : p.length ≤ 17592186044160) (hi : I64 i) (hn : I64 n) (hr0 : Hid (followP x i n p = r)) :
    Calls Try.prog 36 #[nm x, .int .i64 i, .int .i64 n, v] w fun e w' => e = .returned (.tuple #[nm r.1, .bool r.2]) ∧ Below w.heap.size w w' := by
  obtain ⟨A, c, rfl, h1, h2, hr⟩ := hv
  have h := hr0.out
  unfold followP at h
  split at h
  · rename_i hd
    subst h
    have h3 : 0 ≤ i ∧ i < n := by
      have := hd.1
      unfold depthI at this
      split at this
      · assumption
      · omega
    obtain ⟨a, rfl⟩ : ∃ q : Nat, i = (q : Int) := ⟨i.toNat, by omega⟩
    obtain ⟨b, rfl⟩ : ∃ q : Nat, n = (q : Int) := ⟨n.toNat, by omega⟩
    have hd2 := hd.2
    unfold depthI at hd2
    rw [if_pos h3] at hd2
    exact rFollow_yes w x a b A p c _ (by omega) (by have := hn.2; omega) (by have : ((depthF a b : Nat) : Int) = (p.length : Int) := hd2; omega) (Lib.hid rfl) h1 h2 hr
  · rename_i hd
    subst h
    refine rFollow_no w x i n A p.length c hp hi hn ?_
    by_cases h0 : depthI i n < 0
    · exact Or.inl h0
    · exact Or.inr (fun e => hd ⟨by omega, e⟩)
end Go.Proofs.Ytjghengkpbokaaa
