/-
  4 texts in one file: Md1, Md3, Md4, Md5.
-/
import Derived.Test.YtjghengkpbokaaaG4
import Derived.Test.YtjghengkpbokaaaG8
import Derived.Test.YtjghengkpbokaaaG11

/-
  The developers' manytime: Capacity, Size, Leaf, keySeed, grow.
-/
namespace Go.Fl
open Go.ChangeShapes Go.WideShapes Go.ChangeAt Go.RowKit
variable {P : Program} {w : World} {ops : Array Oper} {Q : Exit → Act → World → Prop} {a : Act}

/-- Cells stored over some cells of a block that is known whole. -/
theorem wpList_store_cells {rest : List Oper} {o : Oper} (hgd : o.guard = none) (ty : TypeId) (x y : Operand) (ho : o.op = .store ty x y)
    (g off : Nat) (t : TypeId) (olds : List Value) (cs : Array Value) (hx : a.eval x = .pointer (some ⟨g, off, none⟩)) (hy : a.eval y = .agg cs) (hz : Is w g t olds.toArray) (hfit : off + cs.size ≤ olds.length) (hi : (P.info? ty).map (·.size) = some cs.size) (h1 : cs.all (·.oneCell') = true)
    (h : ∀ w', Is w' g t (olds.take off ++ cs.toList ++ olds.drop (off + cs.size)).toArray → Below g w w' → (∀ b, b ≠ g → w'.heap[b]? = w.heap[b]?) → wpList P ops Q rest (a.put o.dst undef) w') : wpList P ops Q (o :: rest) a w := by
  refine wpList_plain hgd fun K hK => ?_
  have hst := run_storeCells_at (P := P) g off t cs.toList 0 olds.toArray w hz (by simp; omega) (fun v hv => (Array.all_eq_true_iff_forall_mem.1 h1) v (by simpa using hv))
  have hrun : (storeVar ty ⟨g, off, none⟩ (.agg cs)).run P w = .ok () (w.setRow g (olds.take off ++ cs.toList ++ olds.drop (off + cs.size)).toArray) := by
    cases hq : P.info? ty with
    | none => simp [hq] at hi
    | some i =>
      have hs' : cs.size = i.size := by simp [hq] at hi; omega
      simp [Nat.add_zero] at hst
      simp [storeVar, sizeOf, typeInfo, hq, Value.cells, hs', hst]
  unfold Oper.wp execOp
  simp only [ho, hx, hy, Instr.storeAt, Instr.sureAddr, Sem.run_bind, Sem.run_pure, Result.andThen_ok, hrun]
  exact hK _ _ (h _ (setRow_heap w g _ _ t _ hz) (below_setRow (Below.refl _ _) (Nat.le_refl _) _) (fun b hb => setRow_other w g b _ hb))

/-- A block that holds these names. -/
theorem is_rn {g : Nat} {t : TypeId} {l : List (BitVec 64)} (h : Is w g t (nsC l).toArray) : RN w w.heap.size (some ⟨g, 0, none⟩) l := fun _ => by
  refine ⟨g, 0, rfl, h.lt, fun i x hi j hj => ?_⟩
  rw [h.cell, Nat.zero_add]
  simpa using nsC_get l i x hi j hj

/-- One more name of a row that is being filled. -/
theorem row_snoc (Z : List Value) (l : List (BitVec 64)) (k : Nat) (x : BitVec 64) (hZ : Z.take (k * 8) = nsC (l.take k)) (hl : k * 8 + 8 ≤ Z.length) (_hk : k ≤ l.length) (hx : l.take k ++ [x] = l.take (k + 1)) :
    (Z.take (k * 8) ++ (nmC x).toList ++ Z.drop (k * 8 + (nmC x).size)).take ((k + 1) * 8) = nsC (l.take (k + 1)) ∧ (Z.take (k * 8) ++ (nmC x).toList ++ Z.drop (k * 8 + (nmC x).size)).length = Z.length := by
  have h8 : (nmC x).toList.length = 8 := rfl
  have e8 : (nmC x).size = 8 := rfl
  constructor
  · rw [List.take_append_of_le_length (by rw [List.length_append, List.length_take, h8]; omega), List.take_of_length_le (by rw [List.length_append, List.length_take, h8]; omega), hZ, ← hx, nsC_append]
    rfl
  · rw [List.length_append, List.length_append, List.length_take, List.length_drop, h8, e8]
    omega

/-- The cells of a tree: its names and its root. -/
def treeC (v : Value) (x : BitVec 64) : Array Value := #[v, B (nb x 0), B (nb x 1), B (nb x 2), B (nb x 3), B (nb x 4), B (nb x 5), B (nb x 6), B (nb x 7)]

theorem keyF_text (s : BitVec 64) (l t j : Nat) (hl : l < 256) (ht : t < 65536) (hj : j < 256) : keyF s l t j = sumF (48 :: (((nmL s ++ tailB (ofn l) 1) ++ tailB (ofn t) 2) ++ tailB (ofn j) 1)) := by
  have e : ∀ n : Nat, n < 65536 → (ofn n).toNat = n := fun n h => by
    have := iu_ofn n (by omega)
    unfold iu at this
    omega
  have e1 : ∀ n : Nat, n < 65536 → tailB (ofn n) 1 = [UInt8.ofNat n] := fun n h => by
    show [nb (ofn n) 7] = _
    unfold nb
    rw [e n h]
    simp
  have e2 : ∀ n : Nat, n < 65536 → tailB (ofn n) 2 = [UInt8.ofNat (n / 256), UInt8.ofNat n] := fun n h => by
    show [nb (ofn n) 6, nb (ofn n) 7] = _
    unfold nb
    rw [e n h]
    simp
  rw [e1 l (by omega), e1 j (by omega), e2 t ht]
  unfold keyF
  simp
end Go.Fl
namespace Go.Proofs.Ytjghengkpbokaaa
open Go.ChangeShapes Go.WideShapes Go.ChangeAt Go.RowKit Go.Fl

theorem dcap_any (w : World) (n : Int) : Calls Try.prog 10 #[.int .i64 n] w fun e w' => e = .returned (.int .i64 (capF n)) ∧ w = w' := by
  by_cases h1 : n = 1
  · subst h1
    go_enter Try.func10, Try.ntmps10
    go_wp2
    go_ret
    exact ⟨rfl, rfl⟩
  · by_cases h2 : n = 2
    · subst h2
      go_enter Try.func10, Try.ntmps10
      go_wp2
      go_ret
      exact ⟨rfl, rfl⟩
    · have e : capF n = 0 := by unfold capF; rw [if_neg h1, if_neg h2]
      rw [e]
      have b1 : (n == 1) = false := by rw [beq_eq_false_iff_ne]; exact h1
      have b2 : (n == 2) = false := by rw [beq_eq_false_iff_ne]; exact h2
      go_enter Try.func10, Try.ntmps10
      go_wp2
      go_ret
      exact ⟨rfl, rfl⟩

theorem dsize_any (w : World) (n : Int) : Calls Try.prog 12 #[.int .i64 n] w fun e w' => e = .returned (.int .i64 (sizeF n)) ∧ w = w' := by
  by_cases h1 : n = 1
  · subst h1
    go_enter Try.func12, Try.ntmps12
    go_wp2
    go_ret
    exact ⟨rfl, rfl⟩
  · by_cases h2 : n = 2
    · subst h2
      go_enter Try.func12, Try.ntmps12
      go_wp2
      go_ret
      exact ⟨rfl, rfl⟩
    · have e : sizeF n = 0 := by unfold sizeF; rw [if_neg h1, if_neg h2]
      rw [e]
      have b1 : (n == 1) = false := by rw [beq_eq_false_iff_ne]; exact h1
      have b2 : (n == 2) = false := by rw [beq_eq_false_iff_ne]; exact h2
      go_enter Try.func12, Try.ntmps12
      go_wp2
      go_ret
      exact ⟨rfl, rfl⟩

theorem leafN_uint (l : List UInt8) (h : 2 ≤ l.length) : iu (uintV ((l.drop 0).take 2)) = (leafN l : Int) := by
  match l, h with
  | a :: b :: r, _ =>
    rw [uintV_iu _ (by simp)]
    simp [beI, leafN, ub]

theorem uint_i (A : Option Addr) (l : List UInt8) (m c : Nat) (hm0 : m = l.length) (P N : Int) (p n : Nat) (hP : P = (p : Int)) (hN : N = (n : Int)) (h1 : 1 ≤ n) (h8 : n ≤ 8) (hp : p + n ≤ l.length) (hc : l.length ≤ c) (hm : l.length ≤ 281474976710656) (x : BitVec 64) (hx : Hid (uintV ((l.drop p).take n) = x)) (X : Int) (hX : Hid (iu x = X)) (w : World) (hr : RB w w.heap.size A l) :
    Calls Try.prog 24 #[.slice A m c, .int .i64 P, .int .i64 N] w fun e w' => e = .returned (.tuple #[.int .u64 X, .bool true]) ∧ w = w' := by
  subst hP hN hm0
  rw [← hX.out, ← hx.out]
  exact uint_yes A l c p n h1 h8 hp hc hm w hr

theorem dleaf_any (A : Option Addr) (l : List UInt8) (n c : Nat) (hn : n = l.length) (hc : l.length ≤ c) (hm : l.length ≤ 281474976710656) (w : World) (hr : RB w w.heap.size A l) :
    Calls Try.prog 9 #[.slice A n c] w fun e w' => e = .returned (.tuple #[.int .i64 (leafP l).1, .bool (leafP l).2]) ∧ w = w' := by
  subst hn
  by_cases h : 2 ≤ l.length
  · have e : leafP l = ((leafN l : Int), true) := if_pos h
    rw [e]
    obtain ⟨N, hN⟩ : ∃ N, leafN l = N := ⟨_, rfl⟩
    have hX := leafN_uint l h
    rw [hN] at hX ⊢
    have hN2 : N < 65536 := by
      rw [← hN]
      unfold leafN
      have := (l.getD 0 0).toNat_lt
      have := (l.getD 1 0).toNat_lt
      omega
    obtain ⟨x, hx⟩ : ∃ x, uintV ((l.drop 0).take 2) = x := ⟨_, rfl⟩
    rw [hx] at hX
    have HX := Lib.hid hx
    have HI := Lib.hid hX
    have hw : IntKind.i64.wrap (N : Int) = (N : Int) := by rw [IntKind.wrap_i64]; omega
    clear hx hX hN e
    go_enter Try.func9, Try.ntmps9
    go_wp2_with (first
      | (go_at_call 24; refine (uint_i A l l.length c rfl _ _ 0 2 rfl rfl (by omega) (by omega) (by omega) hc hm x HX N HI _ hr).mono ?_; rintro e w1 ⟨rfl, rfl⟩)
      | fail)
    go_ret2
    exact ⟨rfl, rfl⟩
  · have e : leafP l = (0, false) := if_neg h
    rw [e]
    clear e
    go_enter Try.func9, Try.ntmps9
    go_wp2_with (first
      | (go_at_call 24; refine (uint_no A l c 0 2 (by omega) hm (by constructor <;> omega) _).mono ?_; rintro e w1 ⟨rfl, rfl⟩)
      | fail)
    go_ret2
    exact ⟨rfl, rfl⟩

theorem conv_u64 (n : Nat) (h : n < 1000000) (W : World) : (convert 3 35 (.int .i64 (n : Int))).run Try.prog W = .ok (U (ofn n)) W := by
  have hw : IntKind.u64.wrap (n : Int) = (n : Int) := by rw [IntKind.wrap_u64]; omega
  rw [show U (ofn n) = Value.int .u64 (n : Int) by show Value.int .u64 (iu (ofn n)) = _; rw [iu_ofn n (by omega)]]
  go_simp

theorem appuint_n (A : Option Addr) (l : List UInt8) (n c : Nat) (hn : n = l.length) (x : BitVec 64) (k : Nat) (K : Int) (hK : K = (k : Int)) (hk : k ≤ 8) (r : List UInt8) (hr0 : Hid (l ++ tailB x k = r)) (hm : l.length + 8 ≤ 160000000000000) (w : World) (hr : RB w w.heap.size A l) :
    Calls Try.prog 38 #[.slice A n c, U x, .int .i64 K] w (RetOB w 5 r) := by
  subst hn hK
  have e : appUintF l x (k : Int) = r := by
    rw [← hr0.out]
    unfold appUintF
    have := clampW_cases (k : Int)
    rw [show clampW (k : Int) = k by omega]
  rw [← e]
  exact appuint_any A l c x (k : Int) hm (by constructor <;> omega) w hr

set_option maxRecDepth 10000 in
set_option maxHeartbeats 600000 in
theorem dseed_any (s : BitVec 64) (l t j : Nat) (hl : l < 256) (ht : t < 65536) (hj : j < 256) (y : BitVec 64) (hy : Hid (keyF s l t j = y)) (w : World) :
    Calls Try.prog 42 #[nm s, .int .i64 (l : Int), .int .i64 (t : Int), .int .i64 (j : Int)] w fun e w' => e = .returned (nm y) ∧ Below w.heap.size w w' := by
  obtain ⟨hb, hz, hF⟩ := boxW_facts w s
  have ht0 := hy.out
  rw [keyF_text s l t j hl ht hj] at ht0
  obtain ⟨T1, hT1⟩ : ∃ T, nmL s ++ tailB (ofn l) 1 = T := ⟨_, rfl⟩
  obtain ⟨T2, hT2⟩ : ∃ T, T1 ++ tailB (ofn t) 2 = T := ⟨_, rfl⟩
  obtain ⟨T3, hT3⟩ : ∃ T, T2 ++ tailB (ofn j) 1 = T := ⟨_, rfl⟩
  rw [hT1, hT2, hT3] at ht0
  have hl1 : T1.length = 9 := by rw [← hT1, List.length_append, nmL_len, tailB_len _ _ (by omega)]
  have hl2 : T2.length = 11 := by rw [← hT2, List.length_append, hl1, tailB_len _ _ (by omega)]
  have hl3 : T3.length = 12 := by rw [← hT3, List.length_append, hl2, tailB_len _ _ (by omega)]
  have HY := Lib.hid ht0
  have HT1 := Lib.hid hT1
  have HT2 := Lib.hid hT2
  have HT3 := Lib.hid hT3
  have cv1 := fun W : World => conv_u64 l (by omega) W
  have cv2 := fun W : World => conv_u64 t (by omega) W
  have cv3 := fun W : World => conv_u64 j (by omega) W
  clear hy ht0 hT1 hT2 hT3
  go_enter Try.func42, Try.ntmps42
  go_wp2_with fail
  refine (appuint_n (some ⟨w.heap.size, 0, none⟩) (nmL s) 8 8 rfl _ 1 _ rfl (by omega) T1 HT1 (by simp [nmL_len]) _ (is_rb hb hb.lt)).mono ?_
  rintro e w1 ⟨v1, rfl, ho1, hb1⟩
  obtain ⟨A1, n1, c1, rfl, hn1, hc1, hm1, hr1⟩ := ho1.form_n
  have hz1 := hz.next hb1
  have hF1 := hF.next hb1
  go_wp2_with fail
  refine (appuint_n A1 T1 n1 c1 hn1.out _ 2 _ rfl (by omega) T2 HT2 (by omega) _ hr1.out).mono ?_
  rintro e w2 ⟨v2, rfl, ho2, hb2⟩
  obtain ⟨A2, n2, c2, rfl, hn2, hc2, hm2, hr2⟩ := ho2.form_n
  have hz2 := hz1.next hb2
  have hF2 := hF1.next hb2
  go_wp2_with fail
  refine (appuint_n A2 T2 n2 c2 hn2.out _ 1 _ rfl (by omega) T3 HT3 (by omega) _ hr2.out).mono ?_
  rintro e w3 ⟨v3, rfl, ho3, hb3⟩
  obtain ⟨A3, n3, c3, rfl, hn3, hc3, hm3, hr3⟩ := ho3.form_n
  have hz3 := hz2.next hb3
  have hF3 := hF2.next hb3
  go_wp2_with fail
  refine (tagged_nw 48 A3 T3 n3 c3 hn3.out HY hc3 (by omega) hm3 _ hr3.out).mono ?_
  rintro e w4 ⟨rfl, hb4⟩
  have hz4 := hz3.next hb4
  have hF4 := hF3.next hb4
  go_wp2_with (refine wpList_store_is rfl 30 (.tmp 8) (.tmp 23) rfl (w.heap.size + 1) 30 _ (nmC y) rfl rfl hz4 (nmC_size _) name_info (nmC_one _) ?_; intro w6 hz7 hb6)
  exact ret_is rfl (w.heap.size + 1) 30 _ rfl hz7 Try.underlying30 rfl name_info rfl ⟨rfl, hF4.1.trans (hb6.mono (by omega))⟩

set_option maxRecDepth 10000 in
set_option maxHeartbeats 1000000 in
theorem dgrow_any (s : BitVec 64) (l t : Nat) (hl : l < 256) (ht : t < 65536) (L : List (BitVec 64)) (hL : Hid (leavesF s l t = L)) (x : BitVec 64) (hx : Hid (rootF L = x)) (w : World) :
    Calls Try.prog 59 #[nm s, .int .i64 (l : Int), .int .i64 (t : Int)] w fun e w' => ∃ gt gp, e = .returned (.pointer (some ⟨gt, 0, none⟩)) ∧ w.heap.size ≤ gt ∧ w.heap.size ≤ gp ∧
      Is w' gt 67 (treeC (.slice (some ⟨gp, 0, none⟩) 32 32) x) ∧ Is w' gp 30 (nsC L).toArray ∧ Below w.heap.size w w' := by
  have hb := Is.new w 30 (nmC s)
  have hF := (Fr.refl w).alloc (.cells (nmC s) 30)
  have hsz : (w.alloc (.cells (nmC s) 30)).heap.size = w.heap.size + 1 := by simp
  obtain ⟨i8, hi8, hz0, hz8, hz9⟩ := info_parts info_name
  have HI := Lib.hid hi8
  have HZ0 := Lib.hid hz0
  have HZ1 := Lib.hid hz8
  have HZ2 := Lib.hid hz9
  have hLL := leavesF_len s l t
  rw [hL.out] at hLL
  clear hi8 hz0 hz8 hz9
  go_enter Try.func59, Try.ntmps59
  go_wp2_with (first
    | (at_make; refine wpList_make_sl rfl _ _ 48 rfl 30 i8 _ 8 8 Try.underlying48 HI.out HZ0.out HZ1.out HZ2.out _ _ _ _ 32 32 rfl rfl (by go_num) (by go_num) (by omega) (by omega) (by omega) ?_; intro Z w1 hZ hzz hFm; have hzz2 : Is w1 (w.alloc (.cells (nmC s) 30)).heap.size 30 Z.toArray := hzz; rw [hsz] at hzz2; have hb1 := hb.next hFm.1; have hF1 : Fr w 2 w1 := ⟨hF.1.trans (hFm.1.mono hF.1.size), by have h2 := hFm.2; omega⟩; clear hzz hFm)
    | fail)
  have hZl := hZ.out
  clear hb hF hZ
  go_loopw [12] (fun i wr => ∃ (k : Nat) (Y : List Value), k ≤ 32 ∧ i = .int .i64 (k : Int) ∧ Is wr (w.heap.size + 1) 30 Y.toArray ∧ Y.length = 256 ∧ Y.take (k * 8) = nsC (L.take k) ∧ Is wr w.heap.size 30 (nmC s) ∧ Fr w 2 wr) (fun i _ => 32 - (intOf i).toNat)
  case atStart => exact ⟨0, Z, Nat.zero_le _, rfl, hzz2, by omega, by simp [nsC], hb1, hF1⟩
  case round =>
    clear hb1 hF1 hzz2
    obtain ⟨k, Y, hk, rfl, hY, hYl, hYt, hb, hF⟩ := hrel
    by_cases hlt : k < 32
    · obtain ⟨x1, hx1⟩ : ∃ x1, keyF s l t k = x1 := ⟨_, rfl⟩
      obtain ⟨x2, hx2⟩ : ∃ x2, publicF x1 = x2 := ⟨_, rfl⟩
      have hsn := leavesF_snoc s l t k hlt
      rw [hL.out, hx1, hx2] at hsn
      have HX1 := Lib.hid hx1
      have HX2 := Lib.hid hx2
      have hrow := row_snoc Y L k x2 hYt (by omega) (by omega) hsn
      have HROW := Lib.hid hrow
      have HYL := Lib.hid hYl
      have s1 : (k : Int) < 32 := by omega
      have s0 : (0 : Int) ≤ (k : Int) := by omega
      have hbc := hb.cell
      clear hx1 hx2 hsn hrow hYt hYl
      go_wp2_with fail
      refine (dseed_any s l t k hl ht (by omega) x1 HX1 _).mono ?_
      rintro e w1 ⟨rfl, hb1⟩
      have hF1 := hF.next hb1
      have hb2 := hb.next hb1
      have hY1 := hY.next hb1
      go_wp2_with fail
      refine (opublic_any x1 x2 HX2 _).mono ?_
      rintro e w2 ⟨rfl, hb3⟩
      have hF2 := hF1.next hb3
      have hb4 := hb2.next hb3
      have hY2 := hY1.next hb3
      go_wp2_with (refine wpList_store_cells rfl 30 (.tmp 23) (.tmp 22) rfl (w.heap.size + 1) (k * 8) 30 Y (nmC x2) rfl rfl hY2 (by have := HYL.out; simp; omega) name_info (nmC_one _) ?_; intro w3 hY3 hb5 hfar3)
      go_roundw
      case rel => exact ⟨k + 1, _, by omega, by go_num, hY3, by rw [HROW.out.2]; exact HYL.out, HROW.out.1, (hfar3 w.heap.size (by omega)).trans hb4, hF2.step hb5 (by omega)⟩
      case measure => simp [intOf]; omega
    · obtain rfl : k = 32 := by omega
      rw [List.take_of_length_le (by omega), List.take_of_length_le (by omega)] at hYt
      subst hYt
      clear hYl
      go_wp2_with fail
      refine (mroot_any 32 _ L 32 x hLL hx (by omega) (by omega) _ (is_rn hY)).mono ?_
      rintro e w1 ⟨rfl, hb1⟩
      have hY1 := hY.next hb1
      have hF1 := hF.next hb1
      go_wp2_with fail
      go_ret
      exact ⟨w1.heap.size, w.heap.size + 1, rfl, by have := hF1.2; omega, by omega, Is.new w1 67 (treeC (.slice (some ⟨w.heap.size + 1, 0, none⟩) 32 32) x), hY1.old _, (hF1.alloc _).1⟩
end Go.Proofs.Ytjghengkpbokaaa

/-
  The developers' manytime: what it is that a value is a key, its trees, NewKey, the key's Public.
-/
namespace Go.Fl
open Go.ChangeShapes Go.WideShapes Go.ChangeAt Go.RowKit
variable {P : Program} {w w' : World} {ops : Array Oper} {Q : Exit → Act → World → Prop} {a : Act}

/-- The cells of a key: the seed, the number of levels, the trees. -/
def key2C (s : BitVec 64) (n : Int) (T : List Value) : List Value := (nmC s).toList ++ .int .i64 n :: T
def noTrees : List Value := List.replicate 64 (.pointer none)
theorem noTrees_len : noTrees.length = 64 := List.length_replicate
theorem key2C_len (s : BitVec 64) (n : Int) (T : List Value) : (key2C s n T).length = 9 + T.length := by simp [key2C]; omega
theorem key2C_seed (s : BitVec 64) (n : Int) (T : List Value) {g : Nat} {t : TypeId} (h : Is w g t (key2C s n T).toArray) : w.rangeAt g 0 (nmR s) := fun i u hi => by
  rw [Nat.zero_add, h.cell i]
  have hi8 : i < 8 := (List.getElem?_eq_some_iff.1 hi).1
  have e : (key2C s n T).toArray[i]? = ((nmR s) ++ .int .i64 n :: T)[i]? := by simp [key2C]
  rw [e, List.getElem?_append_left (by simpa using hi8)]
  exact hi
theorem key2C_lev (s : BitVec 64) (n : Int) (T : List Value) {g : Nat} {t : TypeId} (h : Is w g t (key2C s n T).toArray) : w.cell? ⟨g, 8, none⟩ = some (.int .i64 n) := by
  rw [h.cell 8]
  have e : (key2C s n T).toArray[8]? = ((nmR s) ++ .int .i64 n :: T)[8]? := by simp [key2C]
  rw [e]
  rfl
theorem key2C_tree (s : BitVec 64) (n : Int) (T : List Value) {g : Nat} {t : TypeId} (h : Is w g t (key2C s n T).toArray) (i : Nat) (b : Value) (hi : T[i]? = some b) : w.cell? ⟨g, 9 + i, none⟩ = some b := by
  rw [h.cell (9 + i)]
  have e : (key2C s n T).toArray[9 + i]? = ((nmR s) ++ .int .i64 n :: T)[9 + i]? := by simp [key2C]
  rw [e, show (nmR s) ++ .int .i64 n :: T = ((nmR s) ++ [.int .i64 n]) ++ T by simp, List.getElem?_append_right (by simp)]
  have : 9 + i - ((nmR s) ++ [Value.int .i64 n]).length = i := by simp
  rw [this]
  exact hi
theorem key2C_set (s : BitVec 64) (n : Int) (T : List Value) (i : Nat) (u : Value) (_h : i < T.length) : (key2C s n T).set (9 + i) u = key2C s n (T.set i u) := by
  have e : ∀ T', key2C s n T' = ((nmC s).toList ++ [.int .i64 n]) ++ T' := fun T' => by simp [key2C]
  have h9 : ((nmC s).toList ++ [Value.int .i64 n]).length = 9 := by simp
  rw [e, e, List.set_append_right _ _ (by omega), h9, Nat.add_sub_cancel_left]

/-- A value is a tree whose blocks are in D. -/
def TreeAt (tt tn : TypeId) (w : World) (D : Nat → Prop) (s : BitVec 64) (l t : Nat) (v : Value) : Prop :=
  ∃ gt gp L x, v = .pointer (some ⟨gt, 0, none⟩) ∧ D gt ∧ D gp ∧ Is w gt tt (treeC (.slice (some ⟨gp, 0, none⟩) 32 32) x) ∧ Is w gp tn (nsC L).toArray ∧ Hid (leavesF s l t = L) ∧ Hid (rootF L = x)
/-- A value is a key whose blocks are in D. -/
def KeyAt (tk tt tn : TypeId) (w : World) (D : Nat → Prop) (v : Value) (s : BitVec 64) (n : Int) : Prop :=
  ∃ g T, v = .pointer (some ⟨g, 0, none⟩) ∧ D g ∧ Is w g tk (key2C s n T).toArray ∧ T.length = 64 ∧
    ∀ i u, T[i]? = some u → u = .pointer none ∨ TreeAt tt tn w (fun k => D k ∧ k ≠ g) s (i / 32 + 1) (i % 32) u
section
variable {tk tt tn : TypeId} {D D' : Nat → Prop} {s : BitVec 64} {l t : Nat} {v : Value} {n : Int}
theorem TreeAt.keep (h : TreeAt tt tn w D s l t v) (hb : ∀ k, D k → w'.heap[k]? = w.heap[k]?) : TreeAt tt tn w' D s l t v := by
  obtain ⟨gt, gp, L, x, h1, h2, h3, h4, h5, h6⟩ := h
  exact ⟨gt, gp, L, x, h1, h2, h3, (hb gt h2).trans h4, (hb gp h3).trans h5, h6⟩
theorem TreeAt.mono (h : TreeAt tt tn w D s l t v) (hb : ∀ k, D k → D' k) : TreeAt tt tn w D' s l t v := by
  obtain ⟨gt, gp, L, x, h1, h2, h3, h4, h5, h6⟩ := h
  exact ⟨gt, gp, L, x, h1, hb _ h2, hb _ h3, h4, h5, h6⟩
theorem KeyAt.keep (h : KeyAt tk tt tn w D v s n) (hb : ∀ k, D k → w'.heap[k]? = w.heap[k]?) : KeyAt tk tt tn w' D v s n := by
  obtain ⟨g, T, h1, h2, h3, h4, h5⟩ := h
  exact ⟨g, T, h1, h2, (hb g h2).trans h3, h4, fun i u hi => (h5 i u hi).imp id fun h => h.keep fun k hk => hb k hk.1⟩
theorem KeyAt.mono (h : KeyAt tk tt tn w D v s n) (hb : ∀ k, D k → D' k) : KeyAt tk tt tn w D' v s n := by
  obtain ⟨g, T, h1, h2, h3, h4, h5⟩ := h
  exact ⟨g, T, h1, hb _ h2, h3, h4, fun i u hi => (h5 i u hi).imp id fun h => h.mono fun k hk => ⟨hb k hk.1, hk.2⟩⟩
end
/-- The blocks of D and those that have come. -/
def Grew (D : Nat → Prop) (w w' : World) (k : Nat) : Prop := D k ∨ (w.heap.size ≤ k ∧ k < w'.heap.size)

/-- One tree more. -/
theorem key_set {tk tt tn : TypeId} {w2 : World} {D : Nat → Prop} {s : BitVec 64} {n : Int} {g i : Nat} {T : List Value} {u : Value} (hDg : D g) (hTl : T.length = 64) (hD : ∀ k, D k → k < w.heap.size)
    (hT : ∀ i u, T[i]? = some u → u = .pointer none ∨ TreeAt tt tn w (fun k => D k ∧ k ≠ g) s (i / 32 + 1) (i % 32) u) (hI : Is w2 g tk (key2C s n (T.set i u)).toArray)
    (hk : ∀ k, k < w.heap.size → k ≠ g → w2.heap[k]? = w.heap[k]?) (hA : TreeAt tt tn w2 (fun k => Grew D w w2 k ∧ k ≠ g) s (i / 32 + 1) (i % 32) u) : KeyAt tk tt tn w2 (Grew D w w2) (.pointer (some ⟨g, 0, none⟩)) s n := by
  refine ⟨g, T.set i u, rfl, Or.inl hDg, hI, by simpa using hTl, fun j u' hj => ?_⟩
  by_cases e : i = j
  · subst e
    by_cases hi : i < T.length
    · rw [List.getElem?_set_self hi] at hj
      injection hj with hj
      subst hj
      exact Or.inr hA
    · rw [List.getElem?_eq_none (by simp; omega)] at hj
      cases hj
  · rw [List.getElem?_set_ne e] at hj
    refine (hT j u' hj).imp id fun h => ?_
    exact (h.keep fun k hk' => hk k (hD k hk'.1) hk'.2).mono fun k hk' => ⟨Or.inl hk'.1, hk'.2⟩

/-- A pointer stored over one cell of a block that is known whole. -/
theorem wpList_store_ptr {rest : List Oper} {o : Oper} (hgd : o.guard = none) (ty : TypeId) (x y : Operand) (ho : o.op = .store ty x y)
    (g off : Nat) (t : TypeId) (olds : List Value) (p : Option Addr) (hx : a.eval x = .pointer (some ⟨g, off, none⟩)) (hy : a.eval y = .pointer p) (hz : Is w g t olds.toArray) (hfit : off < olds.length) (hi : (P.info? ty).map (·.size) = some 1)
    (h : ∀ w', Is w' g t (olds.set off (.pointer p)).toArray → Below g w w' → (∀ b, b ≠ g → w'.heap[b]? = w.heap[b]?) → wpList P ops Q rest (a.put o.dst undef) w') : wpList P ops Q (o :: rest) a w := by
  refine wpList_plain hgd fun K hK => ?_
  have hst := run_storeCells_at (P := P) g off t [Value.pointer p] 0 olds.toArray w hz (by simp; omega) (fun v hv => by simp at hv; subst hv; rfl)
  have e : olds.take off ++ [Value.pointer p] ++ olds.drop (off + 1) = olds.set off (.pointer p) := by rw [List.set_eq_take_append_cons_drop, if_pos hfit]; simp
  have hrun : (storeVar ty ⟨g, off, none⟩ (.pointer p)).run P w = .ok () (w.setRow g (olds.set off (.pointer p)).toArray) := by
    cases hq : P.info? ty with
    | none => simp [hq] at hi
    | some i =>
      have hs' : i.size = 1 := by simp [hq] at hi; omega
      rw [← e]
      simp [Nat.add_zero] at hst
      simp [storeVar, sizeOf, typeInfo, hq, Value.cells, hs', hst]
  unfold Oper.wp execOp
  simp only [ho, hx, hy, Instr.storeAt, Instr.sureAddr, Sem.run_bind, Sem.run_pure, Result.andThen_ok, hrun]
  exact hK _ _ (h _ (setRow_heap w g _ _ t _ hz) (below_setRow (Below.refl _ _) (Nat.le_refl _) _) (fun b hb => setRow_other w g b _ hb))

/-- An operation whose value is known. -/
theorem wpList_val {rest : List Oper} {o : Oper} (hgd : o.guard = none) (v : Value) (hy : (execOp a.eval o).run P w = .ok (.value v) w) (h : wpList P ops Q rest (a.put o.dst v) w) : wpList P ops Q (o :: rest) a w := by
  refine wpList_plain hgd fun K hK => ?_
  unfold Oper.wp
  rw [hy]
  exact hK _ _ h
end Go.Fl
namespace Go.Proofs.Ytjghengkpbokaaa
open Go.ChangeShapes Go.WideShapes Go.ChangeAt Go.RowKit Go.Fl

theorem ptr_size : (Try.prog.info? 61).map (·.size) = some 1 := by kernel_rfl

abbrev KeyD := KeyAt 65 67 30
abbrev TreeD := TreeAt 67 30

set_option maxRecDepth 10000 in
set_option maxHeartbeats 1000000 in
theorem dtree_any (D : Nat → Prop) (v : Value) (s : BitVec 64) (n : Int) (l t : Nat) (hl : l = 1 ∨ l = 2) (ht : t < 32) (LL TT : Int) (hLL : LL = (l : Int)) (hTT : TT = (t : Int)) (w : World) (hD : ∀ k, D k → k < w.heap.size) (hK : KeyD w D v s n) :
    Calls Try.prog 37 #[v, .int .i64 LL, .int .i64 TT] w fun e w' => ∃ u, e = .returned u ∧ TreeD w' (Grew D w w') s l t u ∧ KeyD w' (Grew D w w') v s n ∧ w.heap.size ≤ w'.heap.size ∧
      (∀ k, k < w.heap.size → ¬ D k → w'.heap[k]? = w.heap[k]?) ∧ (∀ b, b ≤ w.heap.size → (∀ k, D k → b ≤ k) → Below b w w') := by
  subst hLL hTT
  obtain ⟨g, T, rfl, hDg, hI, hTl, hT⟩ := hK
  obtain ⟨i, hi⟩ : ∃ i, (l - 1) * 32 + t = i := ⟨_, rfl⟩
  have hi64 : i < 64 := by rcases hl with rfl | rfl <;> omega
  have hi1 : i / 32 + 1 = l := by rcases hl with rfl | rfl <;> omega
  have hi2 : i % 32 = t := by rcases hl with rfl | rfl <;> omega
  obtain ⟨u, hu⟩ : ∃ u, T[i]? = some u := ⟨_, List.getElem?_eq_getElem (by omega)⟩
  have hc0 := key2C_tree s n T hI i u hu
  have hs := key2C_seed s n T hI
  have hg := hI.lt
  have t1 : (t : Int) < 32 := by omega
  have t0 : (0 : Int) ≤ (t : Int) := by omega
  rcases hT i u hu with rfl | hA
  · obtain ⟨L, hL⟩ : ∃ L, leavesF s l t = L := ⟨_, rfl⟩
    obtain ⟨x, hx⟩ : ∃ x, rootF L = x := ⟨_, rfl⟩
    have HL := Lib.hid hL
    have HX := Lib.hid hx
    have HC := Lib.hid hc0
    have HD := Lib.hid hD
    have HT := Lib.hid hT
    clear hL hx hc0 hD hT hu
    rcases hl with rfl | rfl
    · obtain rfl : t = i := by omega
      have hc : w.cell? ⟨g, 9 + t, none⟩ = some (.pointer none) := by rw [← HC.out]
      go_enter Try.func37, Try.ntmps37
      go_wp2_with (first
        | (refine wpList_load_mid rfl 30 (.tmp 23) rfl g 0 (by rfl) (nmR s) _ hs Try.underlying30 rfl name_info ?_)
        | fail)
      refine (dgrow_any s 1 t (by omega) (by omega) L HL x HX _).mono ?_
      rintro e w1 ⟨gt, gp, rfl, hgt, hgp, hI1, hI2, hb1⟩
      have hIg := hI.next hb1
      clear hc
      go_wp2_with (first
        | (refine wpList_store_ptr rfl 61 (.tmp 28) (.tmp 27) rfl g (9 + t) 65 (key2C s n T) (some ⟨gt, 0, none⟩) rfl rfl hIg (by rw [key2C_len]; omega) ptr_size ?_; intro w2 hI3 hb2 hfar; rw [ key2C_set s n T (t) _ (by omega)] at hI3; have hc3 : w2.cell? ⟨g, 9 + t, none⟩ = some (.pointer (some ⟨gt, 0, none⟩)) := by { have h := key2C_tree s n _ hI3 (t) (.pointer (some ⟨gt, 0, none⟩)) (List.getElem?_set_self (by omega)); exact h })
        | fail)
      go_ret
      have h2t := (hfar gt (by omega)).trans hI1
      have h2p := (hfar gp (by omega)).trans hI2
      have htl := Is.lt h2t
      have hpl := Is.lt h2p
      refine ⟨_, rfl, ⟨gt, gp, L, x, rfl, Or.inr ⟨hgt, htl⟩, Or.inr ⟨hgp, hpl⟩, h2t, h2p, HL, HX⟩, key_set (w := w) (i := t) hDg hTl HD.out HT.out hI3 (fun k hk hkg => (hfar k hkg).trans (hb1.block k hk)) ⟨gt, gp, L, x, rfl, ⟨Or.inr ⟨hgt, htl⟩, by omega⟩, ⟨Or.inr ⟨hgp, hpl⟩, by omega⟩, h2t, h2p, by rw [hi1, hi2]; exact HL, HX⟩, by have := hb1.size; have := hb2.size; omega, fun k hk hkD => (hfar k (fun e => hkD (e ▸ hDg))).trans (hb1.block k hk), fun b hb hDb => (hb1.mono hb).trans (hb2.mono (hDb g hDg))⟩
    · obtain rfl : 32 + t = i := by omega
      have hc : w.cell? ⟨g, 41 + t, none⟩ = some (.pointer none) := by rw [← HC.out]; rw [show (41 + t : Nat) = 9 + (32 + t) by omega]
      go_enter Try.func37, Try.ntmps37
      go_wp2_with (first
        | (refine wpList_load_mid rfl 30 (.tmp 23) rfl g 0 (by rfl) (nmR s) _ hs Try.underlying30 rfl name_info ?_)
        | fail)
      refine (dgrow_any s 2 t (by omega) (by omega) L HL x HX _).mono ?_
      rintro e w1 ⟨gt, gp, rfl, hgt, hgp, hI1, hI2, hb1⟩
      have hIg := hI.next hb1
      clear hc
      go_wp2_with (first
        | (refine wpList_store_ptr rfl 61 (.tmp 28) (.tmp 27) rfl g (41 + t) 65 (key2C s n T) (some ⟨gt, 0, none⟩) rfl rfl hIg (by rw [key2C_len]; omega) ptr_size ?_; intro w2 hI3 hb2 hfar; rw [show (41 + t : Nat) = 9 + (32 + t) by omega, key2C_set s n T (32 + t) _ (by omega)] at hI3; have hc3 : w2.cell? ⟨g, 41 + t, none⟩ = some (.pointer (some ⟨gt, 0, none⟩)) := by { have h := key2C_tree s n _ hI3 (32 + t) (.pointer (some ⟨gt, 0, none⟩)) (List.getElem?_set_self (by omega)); rw [show (9 + (32 + t) : Nat) = 41 + t by omega] at h; exact h })
        | fail)
      go_ret
      have h2t := (hfar gt (by omega)).trans hI1
      have h2p := (hfar gp (by omega)).trans hI2
      have htl := Is.lt h2t
      have hpl := Is.lt h2p
      refine ⟨_, rfl, ⟨gt, gp, L, x, rfl, Or.inr ⟨hgt, htl⟩, Or.inr ⟨hgp, hpl⟩, h2t, h2p, HL, HX⟩, key_set (w := w) (i := 32 + t) hDg hTl HD.out HT.out hI3 (fun k hk hkg => (hfar k hkg).trans (hb1.block k hk)) ⟨gt, gp, L, x, rfl, ⟨Or.inr ⟨hgt, htl⟩, by omega⟩, ⟨Or.inr ⟨hgp, hpl⟩, by omega⟩, h2t, h2p, by rw [hi1, hi2]; exact HL, HX⟩, by have := hb1.size; have := hb2.size; omega, fun k hk hkD => (hfar k (fun e => hkD (e ▸ hDg))).trans (hb1.block k hk), fun b hb hDb => (hb1.mono hb).trans (hb2.mono (hDb g hDg))⟩
  · obtain ⟨gt, gp, L, x, rfl, hgt, hgp, hI1, hI2, hL, hx⟩ := hA
    have HC := Lib.hid hc0
    have HD := Lib.hid hD
    have HT := Lib.hid hT
    have HU := Lib.hid hu
    rw [hi1, hi2] at hL
    clear hc0 hD hT hu
    rcases hl with rfl | rfl
    · obtain rfl : t = i := by omega
      have hc : w.cell? ⟨g, 9 + t, none⟩ = some (.pointer (some ⟨gt, 0, none⟩)) := by rw [← HC.out]
      go_enter Try.func37, Try.ntmps37
      go_wp2
      go_ret
      exact ⟨_, rfl, ⟨gt, gp, L, x, rfl, Or.inl hgt.1, Or.inl hgp.1, hI1, hI2, hL, hx⟩, KeyAt.mono ⟨g, T, rfl, hDg, hI, hTl, HT.out⟩ (fun k hk => Or.inl hk), Nat.le_refl _, fun _ _ _ => rfl, fun _ _ _ => Below.refl _ _⟩
    · obtain rfl : 32 + t = i := by omega
      have hc : w.cell? ⟨g, 41 + t, none⟩ = some (.pointer (some ⟨gt, 0, none⟩)) := by rw [← HC.out]; rw [show (41 + t : Nat) = 9 + (32 + t) by omega]
      go_enter Try.func37, Try.ntmps37
      go_wp2
      go_ret
      exact ⟨_, rfl, ⟨gt, gp, L, x, rfl, Or.inl hgt.1, Or.inl hgp.1, hI1, hI2, hL, hx⟩, KeyAt.mono ⟨g, T, rfl, hDg, hI, hTl, HT.out⟩ (fun k hk => Or.inl hk), Nat.le_refl _, fun _ _ _ => rfl, fun _ _ _ => Below.refl _ _⟩
end Go.Proofs.Ytjghengkpbokaaa

/-
  The developers' manytime: NewKey, the key's Public, Public.
-/
namespace Go.Fl
open Go.ChangeShapes Go.WideShapes Go.ChangeAt Go.RowKit
variable {P : Program} {w w' : World} {ops : Array Oper} {Q : Exit → Act → World → Prop} {a : Act}
/-- A struct that is built. -/
theorem wpList_build {rest : List Oper} {o : Oper} (hgd : o.guard = none) (ty : TypeId) (fs : Array (Nat × Operand)) (_ho : o.op = .build ty fs) (v : Value) (hy : (execOp a.eval o).run P w = .ok (.value v) w) (h : wpList P ops Q rest (a.put o.dst v) w) : wpList P ops Q (o :: rest) a w :=
  wpList_val hgd v hy h
theorem treeC_root (v : Value) (x : BitVec 64) {g : Nat} {t : TypeId} (h : Is w g t (treeC v x)) : w.rangeAt g 1 (nmR x) := fun i u hi => by
  rw [h.cell]
  have hi8 : i < 8 := (List.getElem?_eq_some_iff.1 hi).1
  have e : treeC v x = (v :: nmR x).toArray := rfl
  rw [e, Nat.add_comm]
  simpa using hi
theorem treeC_names (v : Value) (x : BitVec 64) {g : Nat} {t : TypeId} (h : Is w g t (treeC v x)) : w.cell? ⟨g, 0, none⟩ = some v := by
  rw [h.cell]
  rfl
theorem key_new {tk tt tn : TypeId} {g : Nat} {s : BitVec 64} {n : Int} (h : Is w g tk (key2C s n noTrees).toArray) : KeyAt tk tt tn w (fun k => k = g) (.pointer (some ⟨g, 0, none⟩)) s n :=
  ⟨g, noTrees, rfl, rfl, h, noTrees_len, fun i u hi => Or.inl (by
    unfold noTrees at hi
    rw [List.getElem?_replicate] at hi
    split at hi
    · injection hi with hi; exact hi.symm
    · cases hi)⟩
end Go.Fl
namespace Go.Proofs.Ytjghengkpbokaaa
open Go.ChangeShapes Go.WideShapes Go.ChangeAt Go.RowKit Go.Fl

theorem key_zero : Try.zeroCells65 = (([.int .u8 0, .int .u8 0, .int .u8 0, .int .u8 0, .int .u8 0, .int .u8 0, .int .u8 0, .int .u8 0, .int .i64 0] : List Value) ++ noTrees).toArray := by kernel_rfl
theorem key_built (s : BitVec 64) (n : Int) : ((((((((Try.zeroCells65.setIfInBounds 0 (B (nb s 0))).setIfInBounds 1 (B (nb s 1))).setIfInBounds 2 (B (nb s 2))).setIfInBounds 3 (B (nb s 3))).setIfInBounds 4 (B (nb s 4))).setIfInBounds 5 (B (nb s 5))).setIfInBounds 6 (B (nb s 6))).setIfInBounds 7 (B (nb s 7))).setIfInBounds 8 (.int .i64 n) = (key2C s n noTrees).toArray := by
  rw [key_zero]
  simp [key2C]

theorem dcap_v (w : World) (n C : Int) (h : Hid (capF n = C)) : Calls Try.prog 10 #[.int .i64 n] w fun e w' => e = .returned (.int .i64 C) ∧ w = w' := by
  rw [← h.out]
  exact dcap_any w n

set_option maxRecDepth 10000 in
set_option maxHeartbeats 600000 in
theorem dnew_yes (s : BitVec 64) (n : Int) (hn : n = 1 ∨ n = 2) (w : World) :
    Calls Try.prog 21 #[nm s, .int .i64 n] w fun e w' => ∃ g, e = .returned (.pointer (some ⟨g, 0, none⟩)) ∧ w.heap.size ≤ g ∧ Is w' g 65 (key2C s n noTrees).toArray ∧ Below w.heap.size w w' := by
  have hb := Is.new w 30 (nmC s)
  have hF := (Fr.refl w).alloc (.cells (nmC s) 30)
  have hs : (w.alloc (.cells (nmC s) 30)).rangeAt w.heap.size 0 (nmR s) := range_is (cs := nmR s) hb
  obtain ⟨C, hC⟩ : ∃ C, capF n = C := ⟨_, rfl⟩
  have hC0 : C = 32 ∨ C = 1024 := by rcases hn with rfl | rfl; exact Or.inl hC.symm; exact Or.inr hC.symm
  have HC := Lib.hid hC
  have b1 : (C == 0) = false := by rw [beq_eq_false_iff_ne]; omega
  have b2 : decide (C = 0) = false := by rw [decide_eq_false_iff_not]; omega
  clear hC hC0
  go_enter Try.func21, Try.ntmps21
  go_wp2_with (first
    | (go_at_call 10; refine (dcap_v _ n C HC).mono ?_; rintro e w1 ⟨rfl, rfl⟩)
    | (refine wpList_load_mid rfl 30 (.tmp 2) rfl w.heap.size 0 (by rfl) (nmR s) _ hs Try.underlying30 rfl name_info ?_)
    | fail)
  rw [key_built]
  go_ret
  exact ⟨_, rfl, by simp, Is.newAt _ _ _ (by simp), (hF.alloc _).1⟩

theorem dnew_no (s : BitVec 64) (n : Int) (hn : ¬ (n = 1 ∨ n = 2)) (w : World) :
    Calls Try.prog 21 #[nm s, .int .i64 n] w fun e w' => e = .returned (.pointer none) ∧ Below w.heap.size w w' := by
  have hF := (Fr.refl w).alloc (.cells (nmC s) 30)
  have HC : Hid (capF n = 0) := Lib.hid (by unfold capF; rw [if_neg (by omega), if_neg (by omega)])
  go_enter Try.func21, Try.ntmps21
  go_wp2_with (first
    | (go_at_call 10; refine (dcap_v _ n 0 HC).mono ?_; rintro e w1 ⟨rfl, rfl⟩)
    | fail)
  go_ret
  exact ⟨rfl, hF.1⟩

set_option maxRecDepth 10000 in
set_option maxHeartbeats 600000 in
/-- The public name of a key. -/
theorem dkpub_yes (D : Nat → Prop) (v : Value) (s : BitVec 64) (n : Int) (hn : n = 1 ∨ n = 2) (y : BitVec 64) (hy : Hid (mpubF s n = y)) (w : World) (hD : ∀ k, D k → k < w.heap.size) (hK : KeyD w D v s n) :
    Calls Try.prog 22 #[v] w fun e w' => e = .returned (nm y) ∧ KeyD w' (Grew D w w') v s n ∧ w.heap.size ≤ w'.heap.size ∧ (∀ b, b ≤ w.heap.size → (∀ k, D k → b ≤ k) → Below b w w') := by
  have hK0 := hK
  obtain ⟨g, T, rfl, hDg, hI, hTl, hT⟩ := hK
  obtain ⟨l, hl, hln⟩ : ∃ l : Nat, (l = 1 ∨ l = 2) ∧ n = (l : Int) := by
    rcases hn with rfl | rfl
    · exact ⟨1, Or.inl rfl, rfl⟩
    · exact ⟨2, Or.inr rfl, rfl⟩
  obtain ⟨C, hC⟩ : ∃ C, capF n = C := ⟨_, rfl⟩
  have hC0 : C = 32 ∨ C = 1024 := by rcases hn with rfl | rfl; exact Or.inl hC.symm; exact Or.inr hC.symm
  have HC := Lib.hid hC
  have b1 : (C == 0) = false := by rw [beq_eq_false_iff_ne]; omega
  have b2 : decide (C = 0) = false := by rw [decide_eq_false_iff_not]; omega
  have hy2 : treeF s l 0 = y := by
    rw [← hy.out]
    rcases hl with rfl | rfl <;> subst hln
    · exact (mpub_one s).symm
    · exact (mpub_two s).symm
  have HY := Lib.hid hy2
  subst hln
  have hW : Below w.heap.size w (w.alloc (.cells #[.int .u8 0, .int .u8 0, .int .u8 0, .int .u8 0, .int .u8 0, .int .u8 0, .int .u8 0, .int .u8 0] 30)) := (Below.refl _ _).alloc (Nat.le_refl _) _
  have hz0 := Is.new w 30 #[B 0, B 0, B 0, B 0, B 0, B 0, B 0, B 0]
  have hsz : (w.alloc (.cells #[.int .u8 0, .int .u8 0, .int .u8 0, .int .u8 0, .int .u8 0, .int .u8 0, .int .u8 0, .int .u8 0] 30)).heap.size = w.heap.size + 1 := by simp
  have hl8 := key2C_lev s l T (hI.next hW)
  have hK1 := hK0.keep (w' := (w.alloc (.cells #[.int .u8 0, .int .u8 0, .int .u8 0, .int .u8 0, .int .u8 0, .int .u8 0, .int .u8 0, .int .u8 0] 30))) fun k hk => hW.block k (hD k hk)
  have hz : Is (w.alloc (.cells #[.int .u8 0, .int .u8 0, .int .u8 0, .int .u8 0, .int .u8 0, .int .u8 0, .int .u8 0, .int .u8 0] 30)) w.heap.size 30 #[B 0, B 0, B 0, B 0, B 0, B 0, B 0, B 0] := hz0
  have HD := Lib.hid hD
  clear hC hC0 hy hy2 hn hT hD hK0 hI hz0
  go_enter Try.func22, Try.ntmps22
  go_wp2_with (first
    | (go_at_call 10; refine (dcap_v _ l C HC).mono ?_; rintro e w1 ⟨rfl, rfl⟩)
    | fail)
  generalize (w.alloc (.cells #[.int .u8 0, .int .u8 0, .int .u8 0, .int .u8 0, .int .u8 0, .int .u8 0, .int .u8 0, .int .u8 0] 30)) = W at *
  refine (dtree_any D _ s l l 0 hl (by omega) _ _ rfl rfl W (fun k hk => by have := HD.out k hk; omega) hK1).mono ?_
  rintro e w1 ⟨u, rfl, ⟨gt, gp, L, x, rfl, hgt, hgp, hI1, hI2, hL, hx⟩, hK2, hs1, hk1, hb1⟩
  have hxy : x = y := by rw [← HY.out, ← hx.out, ← hL.out]; rfl
  subst hxy
  have hrt := treeC_root _ _ hI1
  have hz1 : Is w1 w.heap.size 30 #[B 0, B 0, B 0, B 0, B 0, B 0, B 0, B 0] := (hk1 w.heap.size (by omega) (fun h => by have := HD.out _ h; omega)).trans hz
  go_wp2_with (first
    | (refine wpList_load_mid rfl 30 (.tmp 21) rfl gt 1 (by rfl) (nmR x) _ hrt Try.underlying30 rfl name_info ?_)
    | (refine wpList_store_far rfl 30 (.tmp 2) (.tmp 22) rfl w.heap.size 30 _ (nmC x) rfl rfl hz1 (nmC_size _) name_info (nmC_one _) ?_; intro w2 hz2 hb2 hfar2)
    | fail)
  refine ret_is rfl w.heap.size 30 _ rfl hz2 Try.underlying30 rfl name_info rfl ⟨rfl, ?_, by have := hb2.size; omega, fun b hb hDb => (hW.mono hb).trans ((hb1 b (by omega) hDb).trans (hb2.mono hb))⟩
  have hne : ∀ k, Grew D W w1 k → k ≠ w.heap.size := fun k hk => by
    rcases hk with h | h
    · have := HD.out k h; omega
    · omega
  refine (hK2.keep fun k hk => hfar2 k (hne k hk)).mono fun k hk => ?_
  rcases hk with h | h
  · exact Or.inl h
  · exact Or.inr ⟨by omega, by have := hb2.size; omega⟩
end Go.Proofs.Ytjghengkpbokaaa

/-
  The developers' manytime: Public, and a key that is nil.
-/
namespace Go.Proofs.Ytjghengkpbokaaa
open Go.ChangeShapes Go.WideShapes Go.ChangeAt Go.RowKit Go.Fl

set_option maxRecDepth 10000 in
theorem dkpub_nil (w : World) :
    Calls Try.prog 22 #[.pointer none] w fun e w' => e = .returned (nm 0) ∧ Below w.heap.size w w' := by
  have hz := Is.new w 30 #[B 0, B 0, B 0, B 0, B 0, B 0, B 0, B 0]
  have hF := (Fr.refl w).alloc (.cells #[B 0, B 0, B 0, B 0, B 0, B 0, B 0, B 0] 30)
  go_enter Try.func22, Try.ntmps22
  go_wp2_with (first
    | (refine wpList_store_is rfl 30 (.tmp 2) (.tmp 13) rfl w.heap.size 30 _ (nmC 0) rfl rfl hz (nmC_size _) name_info (nmC_one _) ?_; intro w2 hz2 hb2)
    | fail)
  exact ret_is rfl w.heap.size 30 _ rfl hz2 Try.underlying30 rfl name_info rfl ⟨rfl, hF.1.trans hb2⟩

theorem dksign_nil (w : World) (leaf : Int) (m : BitVec 64) :
    Calls Try.prog 23 #[.pointer none, .int .i64 leaf, nm m] w fun e w' => e = .returned (.tuple #[.slice none 0 0, .bool false]) ∧ Below w.heap.size w w' := by
  have hF := (Fr.refl w).alloc (.cells (nmC m) 30)
  go_enter Try.func23, Try.ntmps23
  go_wp2_with fail
  go_ret2
  exact ⟨rfl, hF.1⟩

set_option maxRecDepth 10000 in
set_option maxHeartbeats 600000 in
theorem dpub_any (w : World) (s : BitVec 64) (n : Int) (y : BitVec 64) (hy : Hid (mpubF s n = y)) :
    Calls Try.prog 17 #[nm s, .int .i64 n] w fun e w' => e = .returned (nm y) ∧ Below w.heap.size w w' := by
  obtain ⟨hb, hz, hF⟩ := boxW_facts w s
  have hsz : (boxW w s).heap.size = w.heap.size + 2 := by simp [boxW]
  have hs : (boxW w s).rangeAt w.heap.size 0 (nmR s) := range_is (cs := nmR s) hb
  by_cases hn : n = 1 ∨ n = 2
  · go_enter Try.func17, Try.ntmps17
    go_wp2_with (first
      | (refine wpList_load_mid rfl 30 (.tmp 2) rfl w.heap.size 0 (by rfl) (nmR s) _ hs Try.underlying30 rfl name_info ?_)
      | fail)
    refine (dnew_yes s n hn (boxW w s)).mono ?_
    rintro e w1 ⟨g, rfl, hg, hI, hb1⟩
    have hz1 := hz.next hb1
    have hF1 := hF.next hb1
    go_wp2_with fail
    refine (dkpub_yes _ _ s n hn y hy w1 (fun k hk => by subst hk; exact hI.lt) (key_new hI)).mono ?_
    rintro e w2 ⟨rfl, -, hs2, hb2⟩
    have hb2' := hb2 (boxW w s).heap.size hb1.size (fun k hk => by subst hk; exact hg)
    have hz2 := hz.next (hb1.trans hb2')
    have hF2 := hF.next (hb1.trans hb2')
    go_wp2_with (refine wpList_store_is rfl 30 (.tmp 4) (.tmp 8) rfl (w.heap.size + 1) 30 _ (nmC y) rfl rfl hz2 (nmC_size _) name_info (nmC_one _) ?_; intro w6 hz7 hb6)
    exact ret_is rfl (w.heap.size + 1) 30 _ rfl hz7 Try.underlying30 rfl name_info rfl ⟨rfl, hF2.1.trans (hb6.mono (by omega))⟩
  · have e0 : y = 0 := by rw [← hy.out]; unfold mpubF; rw [if_neg (by omega), if_neg (by omega)]
    subst e0
    go_enter Try.func17, Try.ntmps17
    go_wp2_with (first
      | (refine wpList_load_mid rfl 30 (.tmp 2) rfl w.heap.size 0 (by rfl) (nmR s) _ hs Try.underlying30 rfl name_info ?_)
      | fail)
    refine (dnew_no s n hn (boxW w s)).mono ?_
    rintro e w1 ⟨rfl, hb1⟩
    have hz1 := hz.next hb1
    have hF1 := hF.next hb1
    go_wp2_with fail
    refine (dkpub_nil w1).mono ?_
    rintro e w2 ⟨rfl, hb2⟩
    have hz2 := hz1.next hb2
    have hF2 := hF1.next hb2
    go_wp2_with (refine wpList_store_is rfl 30 (.tmp 4) (.tmp 8) rfl (w.heap.size + 1) 30 _ (nmC 0) rfl rfl hz2 (nmC_size _) name_info (nmC_one _) ?_; intro w6 hz7 hb6)
    exact ret_is rfl (w.heap.size + 1) 30 _ rfl hz7 Try.underlying30 rfl name_info rfl ⟨rfl, hF2.1.trans (hb6.mono (by omega))⟩
end Go.Proofs.Ytjghengkpbokaaa
