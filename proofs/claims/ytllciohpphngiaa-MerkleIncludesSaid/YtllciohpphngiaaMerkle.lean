/-
  The developers' merkle: Follow, Verify; it keeps chapter 3 ('merkleM').
-/
import Derived.Test.YtllciohpphngiaaMerk3
import Derived.Test.YtllciohpphngiaaR3Ref
namespace Go.Proofs.Ytllciohpphngiaa
open Go.ChangeShapes Go.WideShapes Go.ChangeAt Go.RowKit Go.Fl

attribute [local go_sem] equal_nm eqGuard_nm

set_option maxHeartbeats 600000 in
theorem mFollow_no (w : World) (x : BitVec 64) (i n : Int) (A : Option Addr) (m c : Nat) (hm : m ≤ 17592186044160) (hi : I64 i) (hn : I64 n) (h : depthI i n < 0 ∨ depthI i n ≠ (m : Int)) :
    Calls Try.prog 19 #[nm x, .int .i64 i, .int .i64 n, .slice A m c] w fun e w' => e = .returned (.tuple #[nm 0, .bool false]) ∧ Below w.heap.size w w' := by
  obtain ⟨hl, hz, hF, hW⟩ := folW_facts w x
  obtain ⟨D, hD⟩ : ∃ D, depthI i n = D := ⟨_, rfl⟩
  rw [hD] at h
  have HD := Lib.hid hD
  clear hD
  have h1 : (m : Int) ≠ D := by omega
  have b1 : ((m : Int) == D) = false := by rw [beq_eq_false_iff_ne]; exact h1
  have b2 : ((m : Int) != D) = true := by rw [bne, b1]; rfl
  have b3 : decide ((m : Int) = D) = false := by rw [decide_eq_false_iff_not]; exact h1
  clear h
  go_enter Try.func19, Try.ntmps19
  go_wp2_with fail
  refine (mdepth_any i n hi hn (folW w x)).mono ?_
  rintro e w1 ⟨rfl, rfl⟩
  rw [HD.out]
  generalize folW w x = W at *
  go_wp2_with (refine wpList_store_is rfl 27 (.tmp 8) (.tmp 16) rfl (w.heap.size + 1) 27 _ (nmC 0) rfl rfl hz (nmC_size _) name_info (nmC_one _) ?_; intro w6 hz7 hb6)
  exact ret_is_tmp rfl (w.heap.size + 1) 27 _ rfl hz7 Try.underlying27 rfl name_info rfl ⟨rfl, hF.1.trans (hb6.mono (by omega))⟩

set_option maxHeartbeats 600000 in
theorem mFollow_yes (w : World) (x : BitVec 64) (i n : Nat) (A : Option Addr) (p : List (BitVec 64)) (c : Nat) (y : BitVec 64) (hin : i < n) (hn : n ≤ 9223372036854775807) (hp : p.length = depthF i n) (hy : Hid (followF x i n p = y)) (hc : p.length ≤ c) (hc63 : c ≤ 9223372036854775807) (hr : RN w w.heap.size A p) :
    Calls Try.prog 19 #[nm x, .int .i64 (i : Int), .int .i64 (n : Int), .slice A p.length c] w fun e w' => e = .returned (.tuple #[nm y, .bool true]) ∧ Below w.heap.size w w' := by
  obtain ⟨hl, hz, hF, hW⟩ := folW_facts w x
  have hd : depthI i n = (p.length : Int) := by unfold depthI; rw [if_pos (by omega), Int.toNat_natCast, Int.toNat_natCast, hp]
  have HD := Lib.hid hd
  have HR := Lib.hid hr
  have HP := Lib.hid hp
  have m0 : ¬ ((p.length : Int) < 0) := by omega
  clear hd hr hp
  go_enter Try.func19, Try.ntmps19
  go_wp2_with fail
  refine (mdepth_any i n ⟨by omega, by omega⟩ ⟨by omega, by omega⟩ (folW w x)).mono ?_
  rintro e w1 ⟨rfl, rfl⟩
  rw [HD.out]
  generalize folW w x = W at *
  have hlc := hl.cell
  go_wp2_with (first
    | (go_at_call 33; refine (mclimb_any n x i A p _ c _ _ y rfl rfl hin hn rfl HP.out hy hc hc63 _ ((HR.out.keep hF.1).mono (by (have := hF.2; omega)))).mono ?_; rintro e w2 ⟨rfl, hb2⟩; have hF2 := hF.next hb2; have hz2 := hz.next hb2)
    | (refine wpList_store_is rfl 27 (.tmp 8) (.tmp 21) rfl (w.heap.size + 1) 27 _ (nmC y) rfl rfl hz2 (nmC_size _) name_info (nmC_one _) ?_; intro w6 hz7 hb6))
  exact ret_is_tmp rfl (w.heap.size + 1) 27 _ rfl hz7 Try.underlying27 rfl name_info rfl ⟨rfl, hF2.1.trans (hb6.mono (by omega))⟩

theorem mFollow_any (w : World) (x : BitVec 64) (i n : Int) (v : Value) (p : List (BitVec 64)) (r : BitVec 64 × Bool) (hv : VN w v p) (hp : p.length ≤ 17592186044160) (hi : I64 i) (hn : I64 n) (hr0 : Hid (followP x i n p = r)) :
    Calls Try.prog 19 #[nm x, .int .i64 i, .int .i64 n, v] w fun e w' => e = .returned (.tuple #[nm r.1, .bool r.2]) ∧ Below w.heap.size w w' := by
  obtain ⟨A, c, rfl, h1, h2, hr⟩ := hv
  have h := hr0.out
  unfold followP at h
  split at h
  · rename_i hd
    subst h
    have h3 : 0 ≤ i ∧ i < n := by
      have := hd.1
      unfold depthI at this
      split at this
      · assumption
      · omega
    obtain ⟨a, rfl⟩ : ∃ q : Nat, i = (q : Int) := ⟨i.toNat, by omega⟩
    obtain ⟨b, rfl⟩ : ∃ q : Nat, n = (q : Int) := ⟨n.toNat, by omega⟩
    have hd2 := hd.2
    unfold depthI at hd2
    rw [if_pos h3] at hd2
    exact mFollow_yes w x a b A p c _ (by omega) (by have := hn.2; omega) (by have : ((depthF a b : Nat) : Int) = (p.length : Int) := hd2; omega) (Lib.hid rfl) h1 h2 hr
  · rename_i hd
    subst h
    refine mFollow_no w x i n A p.length c hp hi hn ?_
    by_cases h0 : depthI i n < 0
    · exact Or.inl h0
    · exact Or.inr (fun e => hd ⟨by omega, e⟩)

set_option maxHeartbeats 600000 in
theorem mVerify_any (w : World) (y x : BitVec 64) (i n : Int) (v : Value) (p : List (BitVec 64)) (r : Bool) (hv : VN w v p) (hp : p.length ≤ 17592186044160) (hi : I64 i) (hn : I64 n) (hr0 : Hid (verifyP y x i n p = r)) :
    Calls Try.prog 21 #[nm y, nm x, .int .i64 i, .int .i64 n, v] w fun e w' => e = .returned (.bool r) ∧ Below w.heap.size w w' := by
  obtain ⟨hy, hl, hF, hW⟩ := verW_facts w y x
  obtain ⟨⟨z, b⟩, hq⟩ : ∃ q, followP x i n p = q := ⟨_, rfl⟩
  have h := hr0.out
  unfold verifyP at h
  rw [hq] at h
  have HQ := Lib.hid hq
  have h : (b && nmEq z y) = r := h
  clear hq hr0
  have hz : ∀ w1 : World, Is (w1.alloc (.cells #[B 0, B 0, B 0, B 0, B 0, B 0, B 0, B 0] 27)) w1.heap.size 27 #[B 0, B 0, B 0, B 0, B 0, B 0, B 0, B 0] := fun w1 => Is.new _ _ _
  go_enter Try.func21, Try.ntmps21
  go_wp2_with fail
  refine (mFollow_any (verW w y x) x i n v p (z, b) (hv.next hF.1) hp hi hn HQ).mono ?_
  rintro e w1 ⟨rfl, hb1⟩
  generalize verW w y x = W at *
  have hF1 := (hF.next hb1).alloc (.cells #[B 0, B 0, B 0, B 0, B 0, B 0, B 0, B 0] 27)
  have hy1 := (hy.next hb1).old (.cells #[B 0, B 0, B 0, B 0, B 0, B 0, B 0, B 0] 27)
  have hlt := (hy.next hb1).lt
  cases b
  · go_wp2_with (refine wpList_store_is rfl 27 (.tmp 11) (.tmp 19) rfl w1.heap.size 27 _ (nmC z) rfl rfl (hz w1) (nmC_size _) name_info (nmC_one _) ?_; intro w2 hz2 hb2)
    go_ret
    exact ⟨by rw [← h]; rfl, hF1.1.trans (hb2.mono (by omega))⟩
  · go_wp2_with (refine wpList_store_is rfl 27 (.tmp 11) (.tmp 19) rfl w1.heap.size 27 _ (nmC z) rfl rfl (hz w1) (nmC_size _) name_info (nmC_one _) ?_; intro w2 hz2 hb2; have c1 := hz2.cell; have c2 := (hy1.keep hb2 hlt).cell)
    go_ret
    exact ⟨by rw [← h]; rfl, hF1.1.trans (hb2.mono (by omega))⟩

/-- The program's merkle keeps chapter 3. -/
theorem merkleM : MerkleS Try.prog 27 13 17 11 19 21 where
  root := by
    rintro w v l x ⟨A, c, rfl, h1, h2, hr⟩ _ hx
    exact mroot_any l.length A l c x rfl hx h1 h2 w hr
  depth := by
    intro w i n hi hn
    refine (mdepth_any i n hi hn w).mono ?_
    rintro e w' ⟨rfl, rfl⟩
    exact ⟨rfl, Below.refl _ _⟩
  path := by
    rintro w v l i r ⟨A, c, rfl, h1, h2, hr⟩ _ hi hr0
    have h := hr0.out
    unfold pathP at h
    split at h
    · rename_i h3
      subst h
      obtain ⟨a, rfl⟩ : ∃ q : Nat, i = (q : Int) := ⟨i.toNat, by omega⟩
      exact mpath_yes A l l.length c a _ _ rfl rfl (by omega) (Lib.hid rfl) h1 h2 w hr
    · rename_i h3
      subst h
      exact mpath_no A l.length c i (by omega) hi w
  follow := mFollow_any
  verify := mVerify_any
end Go.Proofs.Ytllciohpphngiaa
