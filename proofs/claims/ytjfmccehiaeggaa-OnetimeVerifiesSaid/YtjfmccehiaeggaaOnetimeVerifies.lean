/-
  The statement OnetimeVerifies, proved for every pair of names, with no condition: Recover of a signature returns the public name of the seed that signed.
-/
import Derived.Test.YtjfmccehiaeggaaLaw4A
import Derived.Deep.DeepCutAuto
namespace Go.Proofs.Ytjfmccehiaeggaa.onetimeVerifies
open Go.ChangeShapes Go.WideShapes Go.ChangeAt Go.RowKit Go.Fl

attribute [local go_sem] equal_nm eqGuard_nm

set_option maxHeartbeats 1000000 in
theorem walk (w : World) (s m : BitVec 64) :
    Calls Try.prog 6 #[nm s, nm m] w fun e w' => e = .returned (.bool true) ∧ Below w.heap.size w w' := by
  obtain ⟨hs, hm, hF⟩ := signW_facts w s m
  have hsz : (signW w s m).heap.size = w.heap.size + 2 := by simp [signW]
  obtain ⟨y, hy⟩ : ∃ y, publicF s = y := ⟨_, rfl⟩
  obtain ⟨L, hL⟩ : ∃ L, valsF s (digF m) = L := ⟨_, rfl⟩
  have hLL := vals_len s (digF m)
  have hR := recP_sign s m
  rw [hL] at hLL hR
  rw [hy] at hR
  have HY := Lib.hid hy
  have HL := Lib.hid hL
  have HLL := Lib.hid hLL
  have HR := Lib.hid hR
  have hyy := nmEq_self y
  clear hy hL hLL hR
  go_enter Try.func6, Try.ntmps6
  go_wp2
  change Code.wp _ _ _ _ (signW w s m)
  generalize signW w s m = W at *
  go_cut [5, 6] (fun s5 s6 wx => ∃ bx : Nat, s5 = .pointer (some ⟨bx, 0, none⟩) ∧ s6 = .bool true ∧ Is wx bx 23 (nmC y) ∧ Is wx w.heap.size 23 (nmC s) ∧ Fr w 2 wx)
  case first =>
    refine wp_region_held_drew (S := fun w' => Is w' w.heap.size 23 (nmC s) ∧ Is w' (w.heap.size + 1) 23 (nmC m) ∧ Fr w 2 w') (by kernel_rfl) ⟨hs.drew, hm.drew, hF.drew⟩ (fun hHeld => ?_)
    refine held_load 0 8 rfl 23 (.tmp 3) rfl (w.heap.size + 1) 0 rfl (nmR m) (fun w' h => range_is (cs := nmR m) h.2.1) Try.underlying23 name_info hHeld ?_
    try simp only [Act.put, List.setIfInBounds_toArray, List.set_cons_zero, List.set_cons_succ]
    refine held_load 1 9 rfl 23 (.tmp 2) rfl w.heap.size 0 rfl (nmR s) (fun w' h => range_is (cs := nmR s) h.1) Try.underlying23 name_info hHeld ?_
    try simp only [Act.put, List.setIfInBounds_toArray, List.set_cons_zero, List.set_cons_succ]
    refine held_load 2 10 rfl 23 (.tmp 3) rfl (w.heap.size + 1) 0 rfl (nmR m) (fun w' h => range_is (cs := nmR m) h.2.1) Try.underlying23 name_info hHeld ?_
    try simp only [Act.put, List.setIfInBounds_toArray, List.set_cons_zero, List.set_cons_succ]
    refine wpAnyH_ready (rs := [3, 8]) (by kernel_rfl) (by simp) (AllReadyH.cons rfl (fun KK hK => ?_) (AllReadyH.cons rfl (fun KK hK => ?_) AllReadyH.nil))
    · rw [if_pos (by rfl)]
      go_wp2_with fail
      refine (oneO.sign _ s m).mono ?_
      rintro e w3 ⟨v3, rfl, ho3, hb⟩
      rw [HL.out] at ho3
      have hv3 := ho3.vn
      go_wp2_with fail
      refine hK.out _ _ ⟨hHeld.1.next hb, hHeld.2.1.next hb, hHeld.2.2.next hb⟩ (fun hHeld1 => ?_)
      clear hK KK
      try simp only [Act.put, List.setIfInBounds_toArray, List.set_cons_zero, List.set_cons_succ]
      have hsz3 := hb.size
      refine wpAnyH_ready (rs := [4, 8]) (by kernel_rfl) (by simp) (AllReadyH.cons rfl (fun KK hK => ?_) (AllReadyH.cons rfl (fun KK hK => ?_) AllReadyH.nil))
      · rw [if_pos (by rfl)]
        go_wp2_with fail
        refine (oneO.recover _ m v3 L (y, true) hv3 (by have := HLL.out; omega) HR).mono ?_
        rintro e w4 ⟨rfl, hb⟩
        go_wp2_with fail
        refine hK.out _ _ ⟨hHeld1.1.next hb, hHeld1.2.1.next hb, hHeld1.2.2.next hb⟩ (fun hHeld2 => ?_)
        clear hK KK
        try simp only [Act.put, List.setIfInBounds_toArray, List.set_cons_zero, List.set_cons_succ]
        refine held_pure 5 7 (.tuple #[nm y, .bool true]) rfl (fun W => by rfl) hHeld2 ?_
        try simp only [Act.put, List.setIfInBounds_toArray, List.set_cons_zero, List.set_cons_succ]
        refine held_pure 6 13 (nm y) rfl (fun W => by go_simp) hHeld2 ?_
        try simp only [Act.put, List.setIfInBounds_toArray, List.set_cons_zero, List.set_cons_succ]
        refine held_pure 7 14 (.bool true) rfl (fun W => by go_simp) hHeld2 ?_
        try simp only [Act.put, List.setIfInBounds_toArray, List.set_cons_zero, List.set_cons_succ]
        refine held_one (i := 8) (by kernel_rfl) rfl (by rfl) (fun KK hK => ?_)
        have hlow := hHeld2.2.2.2
        go_wp2_with fail
        refine hK.out _ _ ⟨hHeld2.1.old _, hHeld2.2.1.old _, (hHeld2.2.2.alloc _).le (by omega)⟩ (fun hHeld3 => ?_)
        clear hK KK
        try simp only [Act.put, List.setIfInBounds_toArray, List.set_cons_zero, List.set_cons_succ]
        have hz := Is.new w4 23 #[B 0, B 0, B 0, B 0, B 0, B 0, B 0, B 0]
        refine held_one (i := 9) (by kernel_rfl) rfl (by rfl) (fun KK hK => ?_)
        refine oper_store_is 23 (.tmp 5) (.tmp 13) rfl w4.heap.size 23 _ (nmC y) rfl rfl hz (nmC_size _) name_info (nmC_one _) ?_
        intro w8 hz8 hb8 hfar8
        refine hK.out _ _ ⟨hHeld3.1.keep hb8 (by omega), hHeld3.2.1.keep hb8 (by omega), hHeld3.2.2.step hb8 (by omega)⟩ (fun hHeld4 => ?_)
        clear hK KK
        try simp only [Act.put, List.setIfInBounds_toArray]
        refine held_pure 10 6 (.bool true) rfl (fun W => by rfl) hHeld4 ?_
        try simp only [Act.put]
        refine wpAnyH_done (by kernel_rfl) ?_ _
        try simp only [Act.put, List.setIfInBounds_toArray, List.set_cons_zero, List.set_cons_succ]
        go_wp2_with fail
        go_meet
        case rel => exact ⟨_, rfl, rfl, hz8, hHeld4.1, hHeld4.2.2⟩
      · rw [if_pos (by rfl)]
        have hlow := hHeld1.2.2.2
        go_wp2_with fail
        refine hK.out _ _ ⟨hHeld1.1.old _, hHeld1.2.1.old _, (hHeld1.2.2.alloc _).le (by omega)⟩ (fun hHeld2 => ?_)
        clear hK KK
        try simp only [Act.put, List.setIfInBounds_toArray, List.set_cons_zero, List.set_cons_succ]
        have hz := Is.new w3 23 #[B 0, B 0, B 0, B 0, B 0, B 0, B 0, B 0]
        have hv3 := hv3.next ((Below.refl _ _).alloc (Nat.le_refl _) (.cells #[B 0, B 0, B 0, B 0, B 0, B 0, B 0, B 0] 23))
        refine held_one (i := 4) (by kernel_rfl) rfl (by rfl) (fun KK hK => ?_)
        go_wp2_with fail
        refine (oneO.recover _ m v3 L (y, true) hv3 (by have := HLL.out; omega) HR).mono ?_
        rintro e w4 ⟨rfl, hb⟩
        have hz := hz.next hb
        go_wp2_with fail
        refine hK.out _ _ ⟨hHeld2.1.next hb, hHeld2.2.1.next hb, hHeld2.2.2.next hb⟩ (fun hHeld3 => ?_)
        clear hK KK
        try simp only [Act.put, List.setIfInBounds_toArray, List.set_cons_zero, List.set_cons_succ]
        refine held_pure 5 7 (.tuple #[nm y, .bool true]) rfl (fun W => by rfl) hHeld3 ?_
        try simp only [Act.put, List.setIfInBounds_toArray, List.set_cons_zero, List.set_cons_succ]
        refine held_pure 6 13 (nm y) rfl (fun W => by go_simp) hHeld3 ?_
        try simp only [Act.put, List.setIfInBounds_toArray, List.set_cons_zero, List.set_cons_succ]
        refine held_pure 7 14 (.bool true) rfl (fun W => by go_simp) hHeld3 ?_
        try simp only [Act.put, List.setIfInBounds_toArray, List.set_cons_zero, List.set_cons_succ]
        refine held_one (i := 9) (by kernel_rfl) rfl (by rfl) (fun KK hK => ?_)
        refine oper_store_is 23 (.tmp 5) (.tmp 13) rfl w3.heap.size 23 _ (nmC y) rfl rfl hz (nmC_size _) name_info (nmC_one _) ?_
        intro w8 hz8 hb8 hfar8
        refine hK.out _ _ ⟨hHeld3.1.keep hb8 (by omega), hHeld3.2.1.keep hb8 (by omega), hHeld3.2.2.step hb8 (by omega)⟩ (fun hHeld4 => ?_)
        clear hK KK
        try simp only [Act.put, List.setIfInBounds_toArray]
        refine held_pure 10 6 (.bool true) rfl (fun W => by rfl) hHeld4 ?_
        try simp only [Act.put]
        refine wpAnyH_done (by kernel_rfl) ?_ _
        try simp only [Act.put, List.setIfInBounds_toArray, List.set_cons_zero, List.set_cons_succ]
        go_wp2_with fail
        go_meet
        case rel => exact ⟨_, rfl, rfl, hz8, hHeld4.1, hHeld4.2.2⟩
    · rw [if_pos (by rfl)]
      have hlow := hHeld.2.2.2
      go_wp2_with fail
      refine hK.out _ _ ⟨hHeld.1.old _, hHeld.2.1.old _, (hHeld.2.2.alloc _).le (by omega)⟩ (fun hHeld1 => ?_)
      clear hK KK
      try simp only [Act.put, List.setIfInBounds_toArray, List.set_cons_zero, List.set_cons_succ]
      have hz : Is (W.drew.alloc (.cells #[B 0, B 0, B 0, B 0, B 0, B 0, B 0, B 0] 23)) (w.heap.size + 2) 23 #[B 0, B 0, B 0, B 0, B 0, B 0, B 0, B 0] := Is.newAt W.drew 23 #[B 0, B 0, B 0, B 0, B 0, B 0, B 0, B 0] hsz.symm
      refine held_one (i := 3) (by kernel_rfl) rfl (by rfl) (fun KK hK => ?_)
      go_wp2_with fail
      refine (oneO.sign _ s m).mono ?_
      rintro e w3 ⟨v3, rfl, ho3, hb⟩
      rw [HL.out] at ho3
      have hv3 := ho3.vn
      have hz := hz.next hb
      go_wp2_with fail
      refine hK.out _ _ ⟨hHeld1.1.next hb, hHeld1.2.1.next hb, hHeld1.2.2.next hb⟩ (fun hHeld2 => ?_)
      clear hK KK
      try simp only [Act.put, List.setIfInBounds_toArray, List.set_cons_zero, List.set_cons_succ]
      refine held_one (i := 4) (by kernel_rfl) rfl (by rfl) (fun KK hK => ?_)
      go_wp2_with fail
      refine (oneO.recover _ m v3 L (y, true) hv3 (by have := HLL.out; omega) HR).mono ?_
      rintro e w4 ⟨rfl, hb⟩
      have hz := hz.next hb
      go_wp2_with fail
      refine hK.out _ _ ⟨hHeld2.1.next hb, hHeld2.2.1.next hb, hHeld2.2.2.next hb⟩ (fun hHeld3 => ?_)
      clear hK KK
      try simp only [Act.put, List.setIfInBounds_toArray, List.set_cons_zero, List.set_cons_succ]
      refine held_pure 5 7 (.tuple #[nm y, .bool true]) rfl (fun W => by rfl) hHeld3 ?_
      try simp only [Act.put, List.setIfInBounds_toArray, List.set_cons_zero, List.set_cons_succ]
      refine held_pure 6 13 (nm y) rfl (fun W => by go_simp) hHeld3 ?_
      try simp only [Act.put, List.setIfInBounds_toArray, List.set_cons_zero, List.set_cons_succ]
      refine held_pure 7 14 (.bool true) rfl (fun W => by go_simp) hHeld3 ?_
      try simp only [Act.put, List.setIfInBounds_toArray, List.set_cons_zero, List.set_cons_succ]
      refine held_one (i := 9) (by kernel_rfl) rfl (by rfl) (fun KK hK => ?_)
      refine oper_store_is 23 (.tmp 5) (.tmp 13) rfl (w.heap.size + 2) 23 _ (nmC y) rfl rfl hz (nmC_size _) name_info (nmC_one _) ?_
      intro w8 hz8 hb8 hfar8
      refine hK.out _ _ ⟨hHeld3.1.keep hb8 (by omega), hHeld3.2.1.keep hb8 (by omega), hHeld3.2.2.step hb8 (by omega)⟩ (fun hHeld4 => ?_)
      clear hK KK
      try simp only [Act.put, List.setIfInBounds_toArray]
      refine held_pure 10 6 (.bool true) rfl (fun W => by rfl) hHeld4 ?_
      try simp only [Act.put]
      refine wpAnyH_done (by kernel_rfl) ?_ _
      try simp only [Act.put, List.setIfInBounds_toArray, List.set_cons_zero, List.set_cons_succ]
      go_wp2_with fail
      go_meet
      case rel => exact ⟨_, rfl, rfl, hz8, hHeld4.1, hHeld4.2.2⟩
  case rest =>
    obtain ⟨bx, rfl, rfl, hx, hs2, hF2⟩ := hcut
    clear hs hm hF
    go_wp2
    refine wp_region_held_drew (S := fun w' => Is w' bx 23 (nmC y) ∧ Is w' w.heap.size 23 (nmC s) ∧ Fr w 2 w') (by kernel_rfl) ⟨hx.drew, hs2.drew, hF2.drew⟩ (fun hHeld => ?_)
    refine held_pure 0 15 (.bool true) rfl (fun W => by rfl) hHeld ?_
    try simp only [Act.put, List.setIfInBounds_toArray, List.set_cons_zero, List.set_cons_succ]
    refine held_pure 1 16 (.bool true) rfl (fun W => by rfl) hHeld ?_
    try simp only [Act.put, List.setIfInBounds_toArray, List.set_cons_zero, List.set_cons_succ]
    refine held_load 2 17 rfl 23 (.tmp 5) rfl bx 0 rfl (nmR y) (fun w' h => range_is (cs := nmR y) h.1) Try.underlying23 name_info hHeld ?_
    try simp only [Act.put, List.setIfInBounds_toArray, List.set_cons_zero, List.set_cons_succ]
    refine held_load 3 18 rfl 23 (.tmp 2) rfl w.heap.size 0 rfl (nmR s) (fun w' h => range_is (cs := nmR s) h.2.1) Try.underlying23 name_info hHeld ?_
    try simp only [Act.put, List.setIfInBounds_toArray, List.set_cons_zero, List.set_cons_succ]
    refine held_one (i := 4) (by kernel_rfl) rfl (by rfl) (fun KK hK => ?_)
    go_wp2_with fail
    refine (oneO.pub _ s y HY).mono ?_
    rintro e w9 ⟨rfl, hb⟩
    go_wp2_with fail
    refine hK.out _ _ ⟨hHeld.1.next hb, hHeld.2.1.next hb, hHeld.2.2.next hb⟩ (fun hHeld1 => ?_)
    clear hK KK
    try simp only [Act.put, List.setIfInBounds_toArray, List.set_cons_zero, List.set_cons_succ]
    refine held_pure 5 20 (.bool true) rfl (fun W => by go_simp) hHeld1 ?_
    try simp only [Act.put, List.setIfInBounds_toArray, List.set_cons_zero, List.set_cons_succ]
    refine held_pure 6 21 (.bool true) rfl (fun W => by rfl) hHeld1 ?_
    try simp only [Act.put, List.setIfInBounds_toArray, List.set_cons_zero, List.set_cons_succ]
    refine held_pure 7 22 (.bool true) rfl (fun W => by rfl) hHeld1 ?_
    try simp only [Act.put, List.setIfInBounds_toArray, List.set_cons_zero, List.set_cons_succ]
    refine held_one (i := 8) (by kernel_rfl) rfl (by rfl) (fun KK hK => ?_)
    go_wp2_with fail
    refine (awake_any _).mono ?_
    rintro e w10 ⟨rfl, hb⟩
    go_wp2_with fail
    refine hK.out _ _ ⟨hHeld1.1.next hb, hHeld1.2.1.next hb, hHeld1.2.2.next hb⟩ (fun hHeld2 => ?_)
    clear hK KK
    try simp only [Act.put, List.setIfInBounds_toArray, List.set_cons_zero, List.set_cons_succ]
    refine held_pure 9 24 (.bool true) rfl (fun W => by rfl) hHeld2 ?_
    try simp only [Act.put, List.setIfInBounds_toArray, List.set_cons_zero, List.set_cons_succ]
    refine held_pure 10 4 (.bool true) rfl (fun W => by rfl) hHeld2 ?_
    try simp only [Act.put, List.setIfInBounds_toArray, List.set_cons_zero, List.set_cons_succ]
    refine wpAnyH_done (by kernel_rfl) ?_ _
    try simp only [Act.put, List.setIfInBounds_toArray, List.set_cons_zero, List.set_cons_succ]
    go_wp2_with fail
    go_ret
    exact ⟨rfl, hHeld2.2.2.1⟩

set_option maxRecDepth 100000 in
/-- The law's step, at every reading. -/
theorem lifted (os : Os) (started : os.Started) (H : Type) (enc : TypeId × Value → H) :
    ReturnsInHanded {} Try.checked os 6 .any (Rows.onetimeVerifiesSpec.pre6 enc Try.prog Try.f6 Rows.onetimeVerifiesRow.domain false) (Rows.onetimeVerifiesSpec.post enc Try.prog Try.f6 false true false false) := by
  refine law_lifted (C := Try.checked) (n := 2) (tb := 4) own started (by kernel_rfl) Try.func6 rfl (by kernel_rfl)
    (of_decide_eq_true (by kernel_rfl)) (by kernel_rfl) (by kernel_rfl) Try.underlying4
    (fun ds hd => by match ds, hd with | [_, _], _ => rfl)
    (ChangeSpec.witness6 (enc := enc) (C := Try.checked) false ⟨#[], #[.agg #[.int .u8 0, .int .u8 0, .int .u8 0, .int .u8 0, .int .u8 0, .int .u8 0, .int .u8 0, .int .u8 0], .agg #[.int .u8 0, .int .u8 0, .int .u8 0, .int .u8 0, .int .u8 0, .int .u8 0, .int .u8 0, .int .u8 0]], []⟩ 8 (by kernel_rfl) (by kernel_rfl) (by kernel_rfl) (by kernel_rfl)) ?_
  intro W base args ds ps hval hA hlt hsz
  rw [Try.params6] at hA hval
  obtain ⟨v0, vs0, d0, ds0, p0, q0, hargs, rfl, rfl, h0, r0⟩ := trodAll_cons hA
  obtain ⟨v1, vs1, d1, ds1, p1, q1, rfl, rfl, rfl, h1, r1⟩ := trodAll_cons r0
  obtain ⟨rfl, rfl, rfl⟩ := trodAll_nil r1
  obtain rfl : args = #[v0, v1] := by cases args; simp_all
  obtain ⟨x0, rfl, rfl⟩ := open_name Try.underlying23 Try.underlying5 cells1 cells8 (hval 0 _ v0 rfl rfl) h0
  obtain ⟨x1, rfl, rfl⟩ := open_name Try.underlying23 Try.underlying5 cells1 cells8 (hval 1 _ v1 rfl rfl) h1
  exact walk W x0 x1

theorem proved : Rows.OnetimeVerifiesSaid :=
  OpenClaim.holds_of_wide 6 Try.f6 rfl rfl rfl rfl rfl rfl rfl ⟨rfl, rfl, rfl, rfl, rfl⟩ rfl rfl rfl rfl rfl (by kernel_rfl) Try.func6 (by kernel_rfl)
    (of_decide_eq_true (by kernel_rfl)) (by unfold Func.isWrapper; first | (rw [if_pos (by decide +kernel)]; kernel_rfl) | (rw [if_neg (by decide +kernel)]; exact ⟨rfl, rfl⟩))
    (fun os started H enc _ => lifted os started H enc)
#print axioms proved
end Go.Proofs.Ytjfmccehiaeggaa.onetimeVerifies
