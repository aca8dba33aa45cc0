/-
  Package vote: Encode, Name.
-/
import Derived.Test.YtpnmmfacnflngaaVd2
import Derived.Test.YtpnmmfacnflngaaCat
import Derived.Test.YtpnmmfacnflngaaCodec2
import Derived.Test.YtpnmmfacnflngaaVote2
import Derived.Test.YtpnmmfacnflngaaVoteS
import Derived.Test.YtpnmmfacnflngaaHTag
namespace Go.Fl
open Go.ChangeShapes Go.WideShapes Go.ChangeAt Go.RowKit
theorem sup_tail (x : BitVec 64) (n : Int) (h : iu x = n) (_h1 : n < 1024) : tailB x 2 = [by_ (n / 256), by_ (n % 256)] := by
  have e : tailB x 2 = [nb x 6, nb x 7] := rfl
  have hn : n = (x.toNat : Int) := h.symm
  have h6 : nb x 6 = by_ (n / 256) := by
    unfold nb by_
    rw [hn]
    congr 1
  have h7 : nb x 7 = by_ (n % 256) := by
    unfold nb by_
    rw [hn]
    apply UInt8.toNat_inj.1
    simp
    omega
  rw [e, h6, h7]
theorem vb3 {w : World} {v0 v1 v2 : Value} {l0 l1 l2 : List UInt8} (h0 : VB w v0 l0) (h1 : VB w v1 l1) (h2 : VB w v2 l2) : ∀ (i : Nat) (v : Value) (l : List UInt8), [v0, v1, v2][i]? = some v → [l0, l1, l2][i]? = some l → VB w v l := fun i v l hv hl => by
  match i with
  | 0 => cases hv; cases hl; exact h0
  | 1 => cases hv; cases hl; exact h1
  | 2 => cases hv; cases hl; exact h2
  | n + 3 => simp at hv
end Go.Fl
namespace Go.Proofs.Ytpnmmfacnflngaa
open Go.ChangeShapes Go.WideShapes Go.ChangeAt Go.RowKit Go.Fl

theorem vpar_rb {w : World} {g : Nat} {t : TypeId} {v : VoteV} (h : Is w g t (voteC v)) : RB w w.heap.size (some ⟨g, 6, none⟩) (nmL v.parent) := fun _ => ⟨g, 6, rfl, h.lt, fun i b hi => by
  rw [h.cell (6 + i)]
  have : i < 8 := (List.getElem?_eq_some_iff.1 hi).1
  have : i = 0 ∨ i = 1 ∨ i = 2 ∨ i = 3 ∨ i = 4 ∨ i = 5 ∨ i = 6 ∨ i = 7 := by omega
  rcases this with rfl | rfl | rfl | rfl | rfl | rfl | rfl | rfl <;> (have e := (Option.some.inj hi).symm; subst e; rfl)⟩
theorem vval_rb {w : World} {g : Nat} {t : TypeId} {v : VoteV} (h : Is w g t (voteC v)) : RB w w.heap.size (some ⟨g, 14, none⟩) (nmL v.value) := fun _ => ⟨g, 14, rfl, h.lt, fun i b hi => by
  rw [h.cell (14 + i)]
  have : i < 8 := (List.getElem?_eq_some_iff.1 hi).1
  have : i = 0 ∨ i = 1 ∨ i = 2 ∨ i = 3 ∨ i = 4 ∨ i = 5 ∨ i = 6 ∨ i = 7 := by omega
  rcases this with rfl | rfl | rfl | rfl | rfl | rfl | rfl | rfl <;> (have e := (Option.some.inj hi).symm; subst e; rfl)⟩
theorem vhead_rb (w : World) (tb : TypeId) (b0 b1 b2 b3 b4 : UInt8) : RB (w.alloc (.cells #[B b0, B b1, B b2, B b3, B b4] tb)) (w.alloc (.cells #[B b0, B b1, B b2, B b3, B b4] tb)).heap.size (some ⟨w.heap.size, 0, none⟩) [b0, b1, b2, b3, b4] := fun _ =>
  ⟨w.heap.size, 0, rfl, (Is.new w tb _).lt, fun i b hi => by
    rw [(Is.new w tb _).cell (0 + i)]
    have : i < 5 := (List.getElem?_eq_some_iff.1 hi).1
    have : i = 0 ∨ i = 1 ∨ i = 2 ∨ i = 3 ∨ i = 4 := by omega
    rcases this with rfl | rfl | rfl | rfl | rfl <;> (have e := (Option.some.inj hi).symm; subst e; rfl)⟩

set_option maxRecDepth 10000 in
set_option maxHeartbeats 1000000 in
theorem venc_no (v : VoteV) (hv : v.I) (h0 : Hid (validF v = false)) (w : World) : Calls Try.prog 13 #[vV v] w fun e w' => e = .returned (.tuple #[.slice none 0 0, .bool false]) ∧ Below w.heap.size w w' := by
  obtain ⟨hA, hF⟩ := oneW_facts w v
  have HV := Lib.hid hv
  clear hv
  go_enter Try.func13, Try.ntmps13
  go_wp2_with (refine wpList_load_w (by rfl) 26 (.tmp 1) rfl w.heap.size 0 (by rfl) (voteL v) _ (vote_range hA) Try.underlying26 rfl (by rw [voteL_len]; exact vote_size) ?_)
  refine (vvalid_l v HV.out _ h0 _).mono ?_
  rintro e w1 ⟨rfl, hb1⟩
  have hF1 := hF.next hb1
  go_wp2_with fail
  go_ret2
  exact ⟨rfl, hF1.1⟩

set_option maxRecDepth 10000 in
set_option maxHeartbeats 2000000 in
theorem venc_yes (v : VoteV) (hv : v.I) (h0 : Hid (validF v = true)) (w : World) : Calls Try.prog 13 #[vV v] w fun e w' => ∃ u, e = .returned (.tuple #[u, .bool true]) ∧ OB w' w.heap.size 5 u (encF v) ∧ Below w.heap.size w w' := by
  obtain ⟨hA, hF⟩ := oneW_facts w v
  have HV := Lib.hid hv
  obtain ⟨⟨k0, k1⟩, ⟨s0, s1⟩, ⟨r0, r1⟩, ⟨c0, c1⟩, ⟨g0, g1⟩, u0, u1⟩ := valid_ranges h0.out
  have cv : ∀ (n : Int), 0 ≤ n → n < 256 → ∀ W : World, (convert 3 5 (.int .i64 n)).run Try.prog W = .ok (B (by_ n)) W := fun n h0 h1 W => by
    rw [show B (by_ n) = Value.int .u8 n from congrArg (Value.int .u8) (ub_by h0 h1)]
    have hwq : IntKind.u8.wrap n = n := by rw [IntKind.wrap_u8]; omega
    go_simp
  have e1 := cv v.kind k0 k1
  have e2 := cv v.slot s0 s1
  have e3 := cv v.round r0 r1
  have e4 := cv v.choice c0 c1
  have e5 := cv v.signer g0 g1
  obtain ⟨x, hx⟩ : ∃ x : BitVec 64, v.sup = iu x := iu_of _ u0 (by omega)
  have e6 : ∀ W : World, (convert 22 33 (.int .i64 v.sup)).run Try.prog W = .ok (U x) W := fun W => by
    rw [hx]
    have hwq : IntKind.u64.wrap (iu x) = iu x := by have a1 := iu_lo x; have a2 := iu_hi x; rw [IntKind.wrap_u64]; omega
    go_simp
  have HT := Lib.hid (sup_tail x v.sup hx.symm u1)
  clear hv cv k0 k1 s0 s1 r0 r1 c0 c1 g0 g1 u0 u1 hx
  go_enter Try.func13, Try.ntmps13
  go_wp2_with (refine wpList_load_w (by rfl) 26 (.tmp 1) rfl w.heap.size 0 (by rfl) (voteL v) _ (vote_range hA) Try.underlying26 rfl (by rw [voteL_len]; exact vote_size) ?_)
  refine (vvalid_l v HV.out _ h0 _).mono ?_
  rintro e W ⟨rfl, hb1⟩
  have hA1 := hA.next hb1
  have hF1 := hF.next hb1
  have kA := hA1.cell
  have hA4 := hA1.old (.cells #[B (by_ v.kind), B (by_ v.slot), B (by_ v.round), B (by_ v.choice), B (by_ v.signer)] 5)
  have hF4 := hF1.alloc (.cells #[B (by_ v.kind), B (by_ v.slot), B (by_ v.round), B (by_ v.choice), B (by_ v.signer)] 5)
  have kA4 := hA4.cell
  have hrb := Lib.hid (vhead_rb W 5 (by_ v.kind) (by_ v.slot) (by_ v.round) (by_ v.choice) (by_ v.signer))
  clear hA hF hb1
  go_wp2_with fail
  refine (appuint_any (some ⟨W.heap.size, 0, none⟩) [by_ v.kind, by_ v.slot, by_ v.round, by_ v.choice, by_ v.signer] 5 x 2 (by simp) ⟨by omega, by omega⟩ _ hrb.out).mono ?_
  rintro e w2 ⟨u2, rfl, hob2, hb2⟩
  have hF2 := (hF4.next hb2).le (m := 1) (by omega)
  have hA2 := hA4.next hb2
  have eh : appUintF [by_ v.kind, by_ v.slot, by_ v.round, by_ v.choice, by_ v.signer] x 2 = headF v := by
    have : appUintF [by_ v.kind, by_ v.slot, by_ v.round, by_ v.choice, by_ v.signer] x 2 = [by_ v.kind, by_ v.slot, by_ v.round, by_ v.choice, by_ v.signer] ++ tailB x 2 := rfl
    rw [this, HT.out]
    rfl
  rw [eh] at hob2
  have HVB := Lib.hid hob2.vb
  obtain ⟨A2, n2, c2, rfl, -, -, -, -⟩ := hob2.form_n
  clear hob2
  clear hrb hA4 hF4 kA kA4 hF1 hA1
  go_wp2_with fail
  refine wp_region_held_drew (S := fun w' => Below w2.heap.size w2 w') (by kernel_rfl) (Below.refl _ _).drew (fun hHeld => ?_)
  refine held_pure 0 29 (.slice A2 n2 c2) rfl (fun W => by rfl) hHeld ?_
  try simp only [Act.put, List.setIfInBounds_toArray, List.set_cons_zero, List.set_cons_succ]
  refine held_pure 1 30 (.pointer (some ⟨w.heap.size, 6, none⟩)) rfl (fun W => by go_simp) hHeld ?_
  try simp only [Act.put, List.setIfInBounds_toArray, List.set_cons_zero, List.set_cons_succ]
  refine held_pure 2 31 (.slice (some ⟨w.heap.size, 6, none⟩) 8 8) rfl (fun W => by go_simp) hHeld ?_
  try simp only [Act.put, List.setIfInBounds_toArray, List.set_cons_zero, List.set_cons_succ]
  refine held_pure 3 32 (.pointer (some ⟨w.heap.size, 14, none⟩)) rfl (fun W => by go_simp) hHeld ?_
  try simp only [Act.put, List.setIfInBounds_toArray, List.set_cons_zero, List.set_cons_succ]
  refine held_pure 4 33 (.slice (some ⟨w.heap.size, 14, none⟩) 8 8) rfl (fun W => by go_simp) hHeld ?_
  try simp only [Act.put, List.setIfInBounds_toArray, List.set_cons_zero, List.set_cons_succ]
  refine held_one (i := 5) (by kernel_rfl) rfl (by rfl) (fun KK hK => ?_)
  go_wp2_with fail
  refine hK.out _ _ (hHeld.trans ((Below.refl _ _).alloc hHeld.size _)) (fun hHeld1 => ?_)
  clear hK KK
  try simp only [Act.put, List.setIfInBounds_toArray, List.set_cons_zero, List.set_cons_succ]
  refine held_one (i := 6) (by kernel_rfl) rfl (by rfl) (fun KK hK => ?_)
  go_wp2_with fail
  refine (concat_any w2.heap.size 0 3 3 [.slice A2 n2 c2, .slice (some ⟨w.heap.size, 6, none⟩) 8 8, .slice (some ⟨w.heap.size, 14, none⟩) 8 8] [headF v, nmL v.parent, nmL v.value] rfl rfl _ (vb3 (HVB.out.next hHeld1) ⟨_, 8, rfl, by simp [nmL_len], by omega, vpar_rb (hA2.next hHeld1)⟩ ⟨_, 8, rfl, by simp [nmL_len], by omega, vval_rb (hA2.next hHeld1)⟩) (range_is (Is.newAt _ _ _ rfl)) (Is.newAt _ _ _ rfl).lt (by omega) (by omega) (by simp [nmL_len, headF])).mono ?_
  rintro e w4 ⟨u4, rfl, hob4, hb4⟩
  go_wp2_with fail
  refine hK.out _ _ (hHeld1.trans (hb4.mono hHeld1.size)) (fun hHeld2 => ?_)
  clear hK KK
  try simp only [Act.put, List.setIfInBounds_toArray, List.set_cons_zero, List.set_cons_succ]
  refine held_pure 7 2 (u4) rfl (fun W => by rfl) hHeld2 ?_
  try simp only [Act.put, List.setIfInBounds_toArray, List.set_cons_zero, List.set_cons_succ]
  refine held_pure 8 3 (.bool true) rfl (fun W => by rfl) hHeld2 ?_
  try simp only [Act.put, List.setIfInBounds_toArray, List.set_cons_zero, List.set_cons_succ]
  refine wpAnyH_done (by kernel_rfl) ?_ _
  try simp only [Act.put, List.setIfInBounds_toArray, List.set_cons_zero, List.set_cons_succ]
  go_wp2_with fail
  go_ret2
  refine ⟨_, rfl, ?_, hF2.1.trans (hHeld2.mono (by have := hF2.2; omega))⟩
  have ef : encF v = [headF v, nmL v.parent, nmL v.value].flatten := by simp [encF]
  rw [ef]
  exact hob4.base_le (by have := hF2.2; have := hHeld1.size; omega)

theorem vname_no (v : VoteV) (hv : v.I) (h0 : Hid (validF v = false)) (w : World) : Calls Try.prog 15 #[vV v] w fun e w' => e = .returned (nm 0) ∧ Below w.heap.size w w' := by
  have hA := (Is.new w 26 (voteC v)).old (.cells #[B 0, B 0, B 0, B 0, B 0, B 0, B 0, B 0] 24)
  have hz : Is ((w.alloc (.cells (voteC v) 26)).alloc (.cells #[B 0, B 0, B 0, B 0, B 0, B 0, B 0, B 0] 24)) (w.heap.size + 1) 24 #[B 0, B 0, B 0, B 0, B 0, B 0, B 0, B 0] := Is.newAt _ _ _ (by simp)
  have hF := ((Fr.refl w).alloc (.cells (voteC v) 26)).alloc (.cells #[B 0, B 0, B 0, B 0, B 0, B 0, B 0, B 0] 24)
  have HV := Lib.hid hv
  clear hv
  go_enter Try.func15, Try.ntmps15
  go_wp2_with (refine wpList_load_w (by rfl) 26 (.tmp 1) rfl w.heap.size 0 (by rfl) (voteL v) _ (vote_range hA) Try.underlying26 rfl (by rw [voteL_len]; exact vote_size) ?_)
  refine (venc_no v HV.out h0 _).mono ?_
  rintro e w1 ⟨rfl, hb1⟩
  have hz1 := hz.next hb1
  have hF1 := hF.next hb1
  go_wp2_with (refine wpList_store_is rfl 24 (.tmp 2) (.tmp 12) rfl (w.heap.size + 1) 24 _ (nmC 0) rfl rfl hz1 (nmC_size _) name_info (nmC_one _) ?_; intro w6 hz7 hb6)
  exact ret_is rfl (w.heap.size + 1) 24 _ rfl hz7 Try.underlying24 rfl name_info rfl ⟨rfl, hF1.1.trans (hb6.mono (by omega))⟩

theorem vname_yes (v : VoteV) (hv : v.I) (h0 : Hid (validF v = true)) (y : BitVec 64) (hy : Hid (sumF (64 :: encF v) = y)) (w : World) : Calls Try.prog 15 #[vV v] w fun e w' => e = .returned (nm y) ∧ Below w.heap.size w w' := by
  have hA := (Is.new w 26 (voteC v)).old (.cells #[B 0, B 0, B 0, B 0, B 0, B 0, B 0, B 0] 24)
  have hz : Is ((w.alloc (.cells (voteC v) 26)).alloc (.cells #[B 0, B 0, B 0, B 0, B 0, B 0, B 0, B 0] 24)) (w.heap.size + 1) 24 #[B 0, B 0, B 0, B 0, B 0, B 0, B 0, B 0] := Is.newAt _ _ _ (by simp)
  have hF := ((Fr.refl w).alloc (.cells (voteC v) 26)).alloc (.cells #[B 0, B 0, B 0, B 0, B 0, B 0, B 0, B 0] 24)
  have HV := Lib.hid hv
  clear hv
  go_enter Try.func15, Try.ntmps15
  go_wp2_with (refine wpList_load_w (by rfl) 26 (.tmp 1) rfl w.heap.size 0 (by rfl) (voteL v) _ (vote_range hA) Try.underlying26 rfl (by rw [voteL_len]; exact vote_size) ?_)
  refine (venc_yes v HV.out h0 _).mono ?_
  rintro e w1 ⟨u, rfl, ho1, hb1⟩
  have hz1 := hz.next hb1
  have hF1 := hF.next hb1
  obtain ⟨A1, n1, c1, rfl, hn1, hc1, hm1, hr1⟩ := ho1.form_n
  have HE := Lib.hid (encF_len v)
  generalize encF v = E at *
  clear ho1
  go_wp2_with fail
  refine (tagged_nw 64 A1 E n1 c1 hn1.out hy hc1 (by have := HE.out; omega) hm1 _ hr1.out).mono ?_
  rintro e w2 ⟨rfl, hb2⟩
  have hz2 := hz1.next hb2
  have hF2 := hF1.next hb2
  go_wp2_with (refine wpList_store_is rfl 24 (.tmp 2) (.tmp 14) rfl (w.heap.size + 1) 24 _ (nmC y) rfl rfl hz2 (nmC_size _) name_info (nmC_one _) ?_; intro w6 hz7 hb6)
  exact ret_is rfl (w.heap.size + 1) 24 _ rfl hz7 Try.underlying24 rfl name_info rfl ⟨rfl, hF2.1.trans (hb6.mono (by omega))⟩
theorem vname_any (v : VoteV) (hv : v.I) (w : World) : Calls Try.prog 15 #[vV v] w fun e w' => e = .returned (nm (vnameF v)) ∧ Below w.heap.size w w' := by
  unfold vnameF
  by_cases h : validF v = true
  · rw [if_pos h]
    exact vname_yes v hv (Lib.hid h) _ (Lib.hid rfl) w
  · rw [if_neg h]
    exact vname_no v hv (Lib.hid (by simpa using h)) w
end Go.Proofs.Ytpnmmfacnflngaa
