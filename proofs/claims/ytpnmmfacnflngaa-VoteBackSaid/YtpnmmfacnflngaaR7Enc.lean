/-
  forkledgerref6: Encode, VoteName.
-/
import Derived.Test.YtpnmmfacnflngaaR7Less
import Derived.Test.YtpnmmfacnflngaaVote2
import Derived.Test.YtpnmmfacnflngaaR1Tag
namespace Go.Proofs.Ytpnmmfacnflngaa
open Go.ChangeShapes Go.WideShapes Go.ChangeAt Go.RowKit Go.Fl

/-- append of bytes, its slot said. -/
theorem oper_append_obd {P : Program} {Q : Exit → Act → World → Prop} {a : Act} {w : World} {o : Oper} {K : Act → World → Prop} (d : Nat) (s x : Operand) (t : TypeId)
    (ho : o.op = .call { callee := .builtin .append, args := #[s, x], argTypes := #[t, t] })
    (base : Nat) (e : TypeId) (i : TypeInfo) (ht : P.underlying t = some (.slice e)) (hi : P.info? e = some i) (hz : i.zero = some (.int .u8 0)) (hs : i.size = 1) (hb : i.bytes = 1)
    (v : Value) (l : List UInt8) (hv : a.eval s = v) (h : OB w base e v l) (n : Nat) (A : Option Addr) (k : List UInt8) (m c : Nat) (hx : a.eval x = .slice A m c) (hk : k.length = m) (hr : RB w n A k) (hm : l.length + k.length ≤ 160000000000000) (hbase : base ≤ w.heap.size)
    (hK : ∀ v' w', OB w' base e v' (l ++ k) → w.grownBy w' v.ownBlock → K (a.put (some d) v') w') (hd : o.dst = some d := by rfl) : Oper.wp P o a w K Q :=
  oper_append_ob s x t ho base e i ht hi hz hs hb v l hv h n A k m c hx hk hr hm hbase (fun v' w' h2 h3 => by rw [hd]; exact hK v' w' h2 h3)
theorem par_rb {w : World} {g : Nat} {t : TypeId} {v : VoteV} (h : Is w g t (voteC v)) : RB w (g + 1) (some ⟨g, 6, none⟩) (nmL v.parent) := fun _ => ⟨g, 6, rfl, by omega, fun i b hi => by
  rw [h.cell (6 + i)]
  have : i < 8 := (List.getElem?_eq_some_iff.1 hi).1
  have : i = 0 ∨ i = 1 ∨ i = 2 ∨ i = 3 ∨ i = 4 ∨ i = 5 ∨ i = 6 ∨ i = 7 := by omega
  rcases this with rfl | rfl | rfl | rfl | rfl | rfl | rfl | rfl <;> (have e := (Option.some.inj hi).symm; subst e; rfl)⟩
theorem val_rb {w : World} {g : Nat} {t : TypeId} {v : VoteV} (h : Is w g t (voteC v)) : RB w (g + 1) (some ⟨g, 14, none⟩) (nmL v.value) := fun _ => ⟨g, 14, rfl, by omega, fun i b hi => by
  rw [h.cell (14 + i)]
  have : i < 8 := (List.getElem?_eq_some_iff.1 hi).1
  have : i = 0 ∨ i = 1 ∨ i = 2 ∨ i = 3 ∨ i = 4 ∨ i = 5 ∨ i = 6 ∨ i = 7 := by omega
  rcases this with rfl | rfl | rfl | rfl | rfl | rfl | rfl | rfl <;> (have e := (Option.some.inj hi).symm; subst e; rfl)⟩
theorem head_ob (w : World) (tb : TypeId) (v : VoteV) {g : Nat} (hg : g = w.heap.size) : OB (w.alloc (.cells #[B (by_ v.kind), B (by_ v.slot), B (by_ v.round), B (by_ v.choice), B (by_ v.signer), B (by_ (v.sup / 256)), B (by_ (v.sup % 256))] tb)) g tb (.slice (some ⟨g, 0, none⟩) 7 7) (headF v) := by
  subst hg
  exact ⟨rfl, .inr ⟨w.heap.size, 7, #[B (by_ v.kind), B (by_ v.slot), B (by_ v.round), B (by_ v.choice), B (by_ v.signer), B (by_ (v.sup / 256)), B (by_ (v.sup % 256))], rfl, Nat.le_refl _, heap_alloc_new w _, by simp [headF], by simp [maxLen], rfl, rfl⟩⟩

set_option maxRecDepth 10000 in
set_option maxHeartbeats 1000000 in
theorem renc_no (v : VoteV) (hv : v.I) (h0 : Hid (validF v = false)) (w : World) : Calls Try.prog 14 #[vV v] w fun e w' => e = .returned (.tuple #[.slice none 0 0, .bool false]) ∧ Below w.heap.size w w' := by
  have hA := Is.new w 26 (voteC v)
  have hF := (Fr.refl w).alloc (.cells (voteC v) 26)
  have HV := Lib.hid hv
  clear hv
  go_enter Try.func14, Try.ntmps14
  go_wp2_with (refine wpList_load_w (by rfl) 26 (.tmp 1) rfl w.heap.size 0 (by rfl) (voteL v) _ (vote_range hA) Try.underlying26 rfl (by rw [voteL_len]; exact vote_size) ?_)
  refine (rvalid_l v HV.out _ h0 _).mono ?_
  rintro e w1 ⟨rfl, hb1⟩
  have hF1 := hF.next hb1
  go_wp2_with fail
  go_ret2
  exact ⟨rfl, hF1.1⟩

set_option maxRecDepth 10000 in
set_option maxHeartbeats 2000000 in
theorem renc_yes (v : VoteV) (hv : v.I) (h0 : Hid (validF v = true)) (w : World) : Calls Try.prog 14 #[vV v] w fun e w' => ∃ u, e = .returned (.tuple #[u, .bool true]) ∧ OB w' w.heap.size 5 u (encF v) ∧ Below w.heap.size w w' := by
  obtain ⟨i0, hi, hz0, hz1, hz2⟩ := info_parts info_byte
  have HI := Lib.hid hi
  have HZ0 := Lib.hid hz0
  have HZ1 := Lib.hid hz1
  have HZ2 := Lib.hid hz2
  have hA := Is.new w 26 (voteC v)
  have hF := (Fr.refl w).alloc (.cells (voteC v) 26)
  have HV := Lib.hid hv
  obtain ⟨⟨k0, k1⟩, ⟨s0, s1⟩, ⟨r0, r1⟩, ⟨c0, c1⟩, ⟨g0, g1⟩, u0, u1⟩ := valid_ranges h0.out
  have cv : ∀ (n : Int), 0 ≤ n → n < 256 → ∀ W : World, (convert 3 5 (.int .i64 n)).run Try.prog W = .ok (B (by_ n)) W := fun n h0 h1 W => by
    rw [show B (by_ n) = Value.int .u8 n from congrArg (Value.int .u8) (ub_by h0 h1)]
    have hwq : IntKind.u8.wrap n = n := by rw [IntKind.wrap_u8]; omega
    go_simp
  have cm : ∀ (n : Int), ∀ W : World, (convert 22 5 (.int .i64 n)).run Try.prog W = .ok (B (by_ (n % 256))) W := fun n W => by
    rw [show B (by_ (n % 256)) = Value.int .u8 (n % 256) from congrArg (Value.int .u8) (ub_by (n := n % 256) (by omega) (by omega))]
    have hwq : IntKind.u8.wrap n = n % 256 := by rw [IntKind.wrap_u8]
    go_simp
  have e1 := cv v.kind k0 k1
  have e2 := cv v.slot s0 s1
  have e3 := cv v.round r0 r1
  have e4 := cv v.choice c0 c1
  have e5 := cv v.signer g0 g1
  have e6 := cm (v.sup / 256)
  rw [show v.sup / 256 % 256 = v.sup / 256 by omega] at e6
  have e7 := cm v.sup
  clear hi hz0 hz1 hz2 hv cv cm k0 k1 s0 s1 r0 r1 c0 c1 g0 g1 u0 u1
  go_enter Try.func14, Try.ntmps14
  go_wp2_with (refine wpList_load_w (by rfl) 26 (.tmp 1) rfl w.heap.size 0 (by rfl) (voteL v) _ (vote_range hA) Try.underlying26 rfl (by rw [voteL_len]; exact vote_size) ?_)
  refine (rvalid_l v HV.out _ h0 _).mono ?_
  rintro e W ⟨rfl, hb1⟩
  have hA1 := hA.next hb1
  have hF1 := hF.next hb1
  have kA := hA1.cell
  have hob0 := head_ob W 5 v rfl
  have hA4 := hA1.old (.cells #[B (by_ v.kind), B (by_ v.slot), B (by_ v.round), B (by_ v.choice), B (by_ v.signer), B (by_ (v.sup / 256)), B (by_ (v.sup % 256))] 5)
  have hF4 := hF1.alloc (.cells #[B (by_ v.kind), B (by_ v.slot), B (by_ v.round), B (by_ v.choice), B (by_ v.signer), B (by_ (v.sup / 256)), B (by_ (v.sup % 256))] 5)
  have hw1 := hF1.2
  have hob4 : OB (W.alloc (.cells #[B (by_ v.kind), B (by_ v.slot), B (by_ v.round), B (by_ v.choice), B (by_ v.signer), B (by_ (v.sup / 256)), B (by_ (v.sup % 256))] 5)) (w.heap.size + 1) 5 (.slice (some ⟨W.heap.size, 0, none⟩) 7 7) (headF v) := hob0.base_le hw1
  have hF4 : Fr w 1 (W.alloc (.cells #[B (by_ v.kind), B (by_ v.slot), B (by_ v.round), B (by_ v.choice), B (by_ v.signer), B (by_ (v.sup / 256)), B (by_ (v.sup % 256))] 5)) := hF4.le (by omega)
  clear hob0 hA hF hb1
  go_wp2_with fail
  refine wp_region_held_drew (S := fun w' => Is w' w.heap.size 26 (voteC v) ∧ Fr w 1 w') (by kernel_rfl) ⟨hA4.drew, hF4.drew⟩ (fun hHeld => ?_)
  refine held_pure 0 31 (.slice (some ⟨W.heap.size, 0, none⟩) 7 7) rfl (fun W => by rfl) hHeld ?_
  try simp only [Act.put, List.setIfInBounds_toArray, List.set_cons_zero, List.set_cons_succ]
  refine held_pure 1 32 (.pointer (some ⟨w.heap.size, 6, none⟩)) rfl (fun W => by go_simp) hHeld ?_
  try simp only [Act.put, List.setIfInBounds_toArray, List.set_cons_zero, List.set_cons_succ]
  refine held_pure 2 33 (.slice (some ⟨w.heap.size, 6, none⟩) 8 8) rfl (fun W => by go_simp) hHeld ?_
  try simp only [Act.put, List.setIfInBounds_toArray, List.set_cons_zero, List.set_cons_succ]
  refine held_pure 4 35 (.pointer (some ⟨w.heap.size, 14, none⟩)) rfl (fun W => by go_simp) hHeld ?_
  try simp only [Act.put, List.setIfInBounds_toArray, List.set_cons_zero, List.set_cons_succ]
  refine held_pure 5 36 (.slice (some ⟨w.heap.size, 14, none⟩) 8 8) rfl (fun W => by go_simp) hHeld ?_
  try simp only [Act.put, List.setIfInBounds_toArray, List.set_cons_zero, List.set_cons_succ]
  refine held_one (i := 3) (by kernel_rfl) rfl (by rfl) (fun KK hK => ?_)
  refine oper_append_obd 34 (.tmp 31) (.tmp 33) 29 rfl (w.heap.size + 1) 5 i0 Try.underlying29 HI.out HZ0.out HZ1.out HZ2.out _ (headF v) rfl hob4 _ (some ⟨w.heap.size, 6, none⟩) (nmL v.parent) 8 8 rfl rfl (par_rb hHeld.1) (by simp [nmL_len, headF]) hHeld.2.2 ?_
  intro v5 w5 hob5 hg5
  have hA5 := hHeld.1.grown hg5 (fun k hk => by have := hob4.own k hk; omega)
  have hF5 := hHeld.2.grown hg5 (fun k hk => by have := hob4.own k hk; omega)
  refine hK.out _ _ ⟨hA5, hF5⟩ (fun hHeld1 => ?_)
  clear hK KK
  try simp only [Act.put, List.setIfInBounds_toArray, List.set_cons_zero, List.set_cons_succ]
  refine held_one (i := 6) (by kernel_rfl) rfl (by rfl) (fun KK hK => ?_)
  refine oper_append_obd 37 (.tmp 34) (.tmp 36) 29 rfl (w.heap.size + 1) 5 i0 Try.underlying29 HI.out HZ0.out HZ1.out HZ2.out _ (headF v ++ nmL v.parent) rfl hob5 _ (some ⟨w.heap.size, 14, none⟩) (nmL v.value) 8 8 rfl rfl (val_rb hHeld1.1) (by simp [nmL_len, headF]) hHeld1.2.2 ?_
  intro v6 w6 hob6 hg6
  have hA6 := hHeld1.1.grown hg6 (fun k hk => by have := hob5.own k hk; omega)
  have hF6 := hHeld1.2.grown hg6 (fun k hk => by have := hob5.own k hk; omega)
  refine hK.out _ _ ⟨hA6, hF6⟩ (fun hHeld2 => ?_)
  clear hK KK
  try simp only [Act.put, List.setIfInBounds_toArray, List.set_cons_zero, List.set_cons_succ]
  refine held_pure 7 2 (v6) rfl (fun W => by rfl) hHeld2 ?_
  try simp only [Act.put, List.setIfInBounds_toArray, List.set_cons_zero, List.set_cons_succ]
  refine held_pure 8 3 (.bool true) rfl (fun W => by rfl) hHeld2 ?_
  try simp only [Act.put, List.setIfInBounds_toArray, List.set_cons_zero, List.set_cons_succ]
  refine wpAnyH_done (by kernel_rfl) ?_ _
  try simp only [Act.put, List.setIfInBounds_toArray, List.set_cons_zero, List.set_cons_succ]
  go_wp2_with fail
  go_ret2
  exact ⟨_, rfl, hob6.base_le (by omega), hF6.1⟩

theorem rname_no (v : VoteV) (hv : v.I) (h0 : Hid (validF v = false)) (w : World) : Calls Try.prog 16 #[vV v] w fun e w' => e = .returned (nm 0) ∧ Below w.heap.size w w' := by
  have hA := (Is.new w 26 (voteC v)).old (.cells #[B 0, B 0, B 0, B 0, B 0, B 0, B 0, B 0] 24)
  have hz : Is ((w.alloc (.cells (voteC v) 26)).alloc (.cells #[B 0, B 0, B 0, B 0, B 0, B 0, B 0, B 0] 24)) (w.heap.size + 1) 24 #[B 0, B 0, B 0, B 0, B 0, B 0, B 0, B 0] := Is.newAt _ _ _ (by simp)
  have hF := ((Fr.refl w).alloc (.cells (voteC v) 26)).alloc (.cells #[B 0, B 0, B 0, B 0, B 0, B 0, B 0, B 0] 24)
  have HV := Lib.hid hv
  clear hv
  go_enter Try.func16, Try.ntmps16
  go_wp2_with (refine wpList_load_w (by rfl) 26 (.tmp 1) rfl w.heap.size 0 (by rfl) (voteL v) _ (vote_range hA) Try.underlying26 rfl (by rw [voteL_len]; exact vote_size) ?_)
  refine (renc_no v HV.out h0 _).mono ?_
  rintro e w1 ⟨rfl, hb1⟩
  have hz1 := hz.next hb1
  have hF1 := hF.next hb1
  go_wp2_with (refine wpList_store_is rfl 24 (.tmp 2) (.tmp 12) rfl (w.heap.size + 1) 24 _ (nmC 0) rfl rfl hz1 (nmC_size _) name_info (nmC_one _) ?_; intro w6 hz7 hb6)
  exact ret_is rfl (w.heap.size + 1) 24 _ rfl hz7 Try.underlying24 rfl name_info rfl ⟨rfl, hF1.1.trans (hb6.mono (by omega))⟩

theorem rname_yes (v : VoteV) (hv : v.I) (h0 : Hid (validF v = true)) (y : BitVec 64) (hy : Hid (sumF (64 :: encF v) = y)) (w : World) : Calls Try.prog 16 #[vV v] w fun e w' => e = .returned (nm y) ∧ Below w.heap.size w w' := by
  have hA := (Is.new w 26 (voteC v)).old (.cells #[B 0, B 0, B 0, B 0, B 0, B 0, B 0, B 0] 24)
  have hz : Is ((w.alloc (.cells (voteC v) 26)).alloc (.cells #[B 0, B 0, B 0, B 0, B 0, B 0, B 0, B 0] 24)) (w.heap.size + 1) 24 #[B 0, B 0, B 0, B 0, B 0, B 0, B 0, B 0] := Is.newAt _ _ _ (by simp)
  have hF := ((Fr.refl w).alloc (.cells (voteC v) 26)).alloc (.cells #[B 0, B 0, B 0, B 0, B 0, B 0, B 0, B 0] 24)
  have HV := Lib.hid hv
  clear hv
  go_enter Try.func16, Try.ntmps16
  go_wp2_with (refine wpList_load_w (by rfl) 26 (.tmp 1) rfl w.heap.size 0 (by rfl) (voteL v) _ (vote_range hA) Try.underlying26 rfl (by rw [voteL_len]; exact vote_size) ?_)
  refine (renc_yes v HV.out h0 _).mono ?_
  rintro e w1 ⟨u, rfl, ho1, hb1⟩
  have hz1 := hz.next hb1
  have hF1 := hF.next hb1
  obtain ⟨A1, n1, c1, rfl, hn1, hc1, hm1, hr1⟩ := ho1.form_n
  have HE := Lib.hid (encF_len v)
  generalize encF v = E at *
  clear ho1
  go_wp2_with fail
  refine (rtagged_n 64 A1 E n1 c1 hn1.out hy hc1 (by have := HE.out; omega) _ hr1.out).mono ?_
  rintro e w2 ⟨rfl, hb2⟩
  have hz2 := hz1.next hb2
  have hF2 := hF1.next hb2
  go_wp2_with (refine wpList_store_is rfl 24 (.tmp 2) (.tmp 14) rfl (w.heap.size + 1) 24 _ (nmC y) rfl rfl hz2 (nmC_size _) name_info (nmC_one _) ?_; intro w6 hz7 hb6)
  exact ret_is rfl (w.heap.size + 1) 24 _ rfl hz7 Try.underlying24 rfl name_info rfl ⟨rfl, hF2.1.trans (hb6.mono (by omega))⟩
end Go.Proofs.Ytpnmmfacnflngaa
