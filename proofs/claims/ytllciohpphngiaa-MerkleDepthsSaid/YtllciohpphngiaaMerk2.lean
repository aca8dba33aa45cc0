/-
  The developers' merkle: extend, grow, Path.
-/
import Derived.Test.YtllciohpphngiaaMerk1
import Derived.ArgAppend
namespace Go.Fl
open Go.ChangeShapes Go.WideShapes Go.ChangeAt Go.RowKit
variable {P : Program} {w : World} {Q : Exit → Act → World → Prop} {a : Act}

/-- x[:n:n] of a slice of n elements. -/
theorem run_slice_full {ts te : TypeId} {i : TypeInfo} (hs : P.underlying ts = some (.slice te)) (hi : P.info? te = some i) (A : Option Addr) (n c : Nat) (N : Int) (hN : N = (n : Int)) (hc : n ≤ c) (W : World) :
    (Instr.slice ts (.slice A n c) none (some (.int .i64 N)) (some (.int .i64 N))).run P W = .ok (.slice A n n) W := by
  subst hN
  have h3 : (n : Int) ≤ (c : Int) := by omega
  simp [Instr.slice, run_underlying hs, Instr.sliceBounds, Instr.sliceBound, asIntOf, sizeOf, typeInfo, hi]
  cases A <;> simp [hc, Addr.add]

theorem rn_news {n : Nat} {A : Option Addr} {l : List (BitVec 64)} (h : RN w n A l) : ∀ b, A = some b → ∀ j u, (nsC l)[j]? = some u → w.cell? (b.add j) = some u := fun b hb j u hu => by
  subst hb
  have hj : j < l.length * 8 := by have := (List.getElem?_eq_some_iff.1 hu).1; rwa [nsC_len] at this
  obtain ⟨g, off, e1, _, hc⟩ := h (by omega)
  injection e1 with e1
  subst e1
  obtain ⟨y, hy⟩ : ∃ y, l[j / 8]? = some y := ⟨_, List.getElem?_eq_getElem (by omega)⟩
  have h1 := nsC_get l (j / 8) y hy (j % 8) (by omega)
  have h2 := hc (j / 8) y hy (j % 8) (by omega)
  have e2 : j / 8 * 8 + j % 8 = j := by omega
  rw [e2, hu] at h1
  rw [add_plain]
  have e3 : off + j / 8 * 8 + j % 8 = off + j := by omega
  rw [e3] at h2
  rw [h2, ← h1]

/-- append of one name that lies in a new block, onto names without room: new memory. -/
theorem oper_append_full {o : Oper} {K : Act → World → Prop} (d : Nat) (s x : Operand) (t : TypeId)
    (ho : o.op = .call { callee := .builtin .append, args := #[s, x], argTypes := #[t, t] })
    (e : TypeId) (i : TypeInfo) (z : Value) (ht : P.underlying t = some (.slice e)) (hi : P.info? e = some i) (hz : i.zero = some z) (hzs : z.cells.size = 8) (hs : i.size = 8) (hb : i.bytes = 8)
    (A : Option Addr) (m : Nat) (l : List (BitVec 64)) (hm : m = l.length) (hv : a.eval s = .slice A m m) (n : Nat) (h : RN w n A l) (y : BitVec 64) (g : Nat) (te : TypeId) (hx : a.eval x = .slice (some ⟨g, 0, none⟩) 1 1) (hy : Is w g te (nmC y)) (hm2 : l.length + 1 ≤ 1000)
    (hK : ∀ v' w', ON w' w.heap.size e v' (l ++ [y]) → w.grownBy w' none → K (a.put (some d) v') w') (hd : o.dst = some d := by rfl) : Oper.wp P o a w K Q := by
  subst hm
  have hnews : ∀ j u, ((nmL y).map B)[j]? = some u → w.cell? ((⟨g, 0, none⟩ : Addr).add j) = some u := fun j u hj => by
    rw [add_plain, hy.cell, Nat.zero_add]
    exact nmC_list y j u hj
  have hrun : ∃ v' w', (Builtin.append_ #[t, t] o.type #[.slice A l.length l.length, .slice (some ⟨g, 0, none⟩) 1 1]).run P w = .ok v' w' ∧ w'.ownsRow w.heap.size e 8 v' (l.length + 1) (nsC l ++ (nmL y).map B) ∧ w.grownBy w' none := by
    cases A with
    | none =>
      obtain rfl := rn_none h
      obtain ⟨v', w', hr, h2, h3, _, _⟩ := run_append_own_at (P := P) w w.heap.size t o.type e i z 8 8 ht hi hz hs hb hzs (by omega) (.slice none 0 0) 0 [] ⟨rfl, .inl ⟨rfl, rfl⟩⟩ ⟨g, 0, none⟩ 1 1 ((nmL y).map B) (by rw [List.length_map, nmL_len]) hnews (bytes_one _) (by simp only [maxLen]; omega) (by omega) (Nat.le_refl _)
      exact ⟨v', w', hr, h2, h3⟩
    | some b =>
      exact run_append_arg_grows (P := P) w t o.type e i z 8 8 ht hi hz hs hb hzs (by omega) b l.length l.length (nsC l) (nsC_len l) (rn_news h b rfl) ⟨g, 0, none⟩ 1 1 ((nmL y).map B) (by rw [List.length_map, nmL_len]) hnews (by omega) (by simp only [maxLen]; omega) (by omega)
  obtain ⟨v', w', hr, h2, h3⟩ := hrun
  unfold Oper.wp execOp
  simp only [ho, resolve, invoke, builtin, Sem.run_bind, Sem.run_pure, Result.andThen_ok, List.map_toArray, List.map_cons, List.map_nil, hv, hx, hr]
  have hfin : K (a.put o.dst v') w' := by
    rw [hd]
    refine hK _ _ ?_ h3
    have e2 : nsC (l ++ [y]) = nsC l ++ (nmL y).map B := by rw [nsC_append]; simp [nsC]
    unfold ON
    rw [e2, List.length_append]
    exact h2
  exact hfin
end Go.Fl
namespace Go.Proofs.Ytllciohpphngiaa
open Go.ChangeShapes Go.WideShapes Go.ChangeAt Go.RowKit Go.Fl

theorem mextend_any (A : Option Addr) (m c : Nat) (l : List (BitVec 64)) (x : BitVec 64) (hm : m = l.length) (hc : m ≤ c) (hl : l.length + 1 ≤ 1000) (w : World) (h : RN w w.heap.size A l) :
    Calls Try.prog 35 #[.slice A m c, nm x] w fun e w' => ∃ v, e = .returned v ∧ ON w' w.heap.size 27 v (l ++ [x]) ∧ Below w.heap.size w w' := by
  obtain ⟨i8, hi8, hz0, hz8, hz9⟩ := info_parts info_name
  have hb := Is.new w 27 (nmC x)
  have hF := (Fr.refl w).alloc (.cells (nmC x) 27)
  have H := Lib.hid h
  have HI := Lib.hid hi8
  have HZ0 := Lib.hid hz0
  have HZ1 := Lib.hid hz8
  have HZ2 := Lib.hid hz9
  have hs3 := fun (W : World) => run_slice_full (P := Try.prog) Try.underlying22 hi8 A m c (m : Int) rfl hc W
  have HM := Lib.hid hm
  clear h hi8 hz0 hz8 hz9 hm hc
  go_enter Try.func35, Try.ntmps35
  go_wp2_with fail
  refine wp_region_held_drew (S := fun w' => Is w' w.heap.size 27 (nmC x)) (by kernel_rfl) hb.drew (fun hHeld => ?_)
  refine held_pure 0 5 (.slice A m c) rfl (fun _ => rfl) hHeld ?_
  try simp only [Act.put, List.setIfInBounds_toArray, List.set_cons_zero, List.set_cons_succ]
  refine held_pure 1 6 (.slice A m c) rfl (fun _ => rfl) hHeld ?_
  try simp only [Act.put, List.setIfInBounds_toArray, List.set_cons_zero, List.set_cons_succ]
  refine held_pure 2 7 (.int .i64 (m : Int)) rfl (fun W => by go_simp) hHeld ?_
  try simp only [Act.put, List.setIfInBounds_toArray, List.set_cons_zero, List.set_cons_succ]
  refine held_pure 3 8 (.slice A m c) rfl (fun _ => rfl) hHeld ?_
  try simp only [Act.put, List.setIfInBounds_toArray, List.set_cons_zero, List.set_cons_succ]
  refine held_pure 4 9 (.int .i64 (m : Int)) rfl (fun W => by go_simp) hHeld ?_
  try simp only [Act.put, List.setIfInBounds_toArray, List.set_cons_zero, List.set_cons_succ]
  refine held_pure 5 10 (.slice A m m) rfl (fun W => by go_simp) hHeld ?_
  try simp only [Act.put, List.setIfInBounds_toArray, List.set_cons_zero, List.set_cons_succ]
  refine held_load 6 11 rfl 27 (.tmp 3) rfl w.heap.size 0 rfl (nmR x) (fun w' h => range_is (cs := (nmR x)) h) Try.underlying27 name_info hHeld ?_
  try simp only [Act.put, List.setIfInBounds_toArray, List.set_cons_zero, List.set_cons_succ]
  refine held_one (i := 7) (by kernel_rfl) rfl (by rfl) (fun K hK => ?_)
  go_wp2_with fail
  have hb1 := (hb.old (.cells (nmC x) 27)).drew
  have hF1 := (hF.alloc (.cells (nmC x) 27)).drew
  have hN := Is.newAt (w.alloc (.cells (nmC x) 27)) 27 (nmC x) (g := w.heap.size + 1) (by simp)
  refine hK.out _ _ hb1 (fun _ => ?_)
  clear hK K
  try simp only [Act.put, List.setIfInBounds_toArray, List.set_cons_zero, List.set_cons_succ]
  refine held_one (i := 8) (by kernel_rfl) rfl (by rfl) (fun K hK => ?_)
  refine oper_append_full 13 (.tmp 10) (.tmp 12) 22 rfl 27 i8 _ Try.underlying22 HI.out HZ0.out rfl HZ1.out HZ2.out A m l HM.out rfl _ ((H.out.keep hF1.1).mono hF1.1.size) x _ _ rfl hN.drew hl ?_
  intro v w3 ho3 hg3
  have hF3 := hF1.grown hg3 (fun k hk => by cases hk)
  have ho4 := on_base ho3 hF1.1.size
  refine hK.out _ _ (hb1.grown hg3 (fun k hk => by cases hk)) (fun hHeld2 => ?_)
  clear hK K
  try simp only [Act.put, List.setIfInBounds_toArray, List.set_cons_zero, List.set_cons_succ]
  refine held_pure 9 4 v rfl (fun _ => rfl) hHeld2 ?_
  refine wpAnyH_done (by kernel_rfl) ?_ _
  try simp only [Act.put, List.setIfInBounds_toArray, List.set_cons_zero, List.set_cons_succ]
  go_wp2_with fail
  go_ret
  exact ⟨_, rfl, ho4, hF3.1⟩
set_option maxHeartbeats 1000000 in
theorem mgrow_any : ∀ (n : Nat) (A : Option Addr) (l : List (BitVec 64)) (c i : Nat) (I : Int) (r : List (BitVec 64)), I = (i : Int) → l.length = n → i < n → Hid (pathF l i = r) → l.length ≤ c → c ≤ 9223372036854775807 → ∀ w : World, RN w w.heap.size A l →
    Calls Try.prog 26 #[.slice A n c, .int .i64 I] w fun e w' => ∃ v, e = .returned v ∧ ON w' w.heap.size 27 v r ∧ Below w.heap.size w w' := by
  intro n
  induction n using Nat.strongRecOn with
  | _ n ih =>
  intro A l c i I r hI hn hin hr0 hc hm w hr
  subst hI
  by_cases h1 : n = 1
  · subst h1
    have er : r = [] := by rw [← hr0.out, pathF_one (by omega)]
    subst er
    obtain rfl : i = 0 := by omega
    go_enter Try.func26, Try.ntmps26
    go_wp2
    go_ret
    exact ⟨_, rfl, ON.nil _ _ _, Below.refl _ _⟩
  · obtain ⟨y, hy⟩ : ∃ y, l[0]? = some y := ⟨_, List.getElem?_eq_getElem (by omega)⟩
    obtain ⟨g, off, rfl, hg, -⟩ := hr.at_ hy
    have hn2 : 2 ≤ n := by omega
    obtain ⟨k, hk⟩ : ∃ k, splitN n = k := ⟨_, rfl⟩
    have k1 : 1 ≤ k := by rw [← hk]; exact splitN_pos n
    have k2 : k < n := by rw [← hk]; exact splitN_lt n hn2
    obtain ⟨i8, hi8, -, hz8, -⟩ := info_parts info_name
    have hs1 := fun (W : World) => run_names_to (P := Try.prog) Try.underlying22 hi8 hz8 g off n c k (X := (k : Int)) (Lib.hid rfl) (by omega) (by omega) W
    have hs2 := fun (W : World) => run_names_from (P := Try.prog) Try.underlying22 hi8 hz8 g off n c k (X := (k : Int)) (Lib.hid rfl) (by omega) (by omega) W
    have hr1 : RN w w.heap.size (some ⟨g, off, none⟩) (l.take k) := hr.take k
    have hr2 : RN w w.heap.size (some ⟨g, off + k * 8, none⟩) (l.drop k) := by have := hr.drop k; simpa [add_plain] using this
    have HR1 := Lib.hid hr1
    have HR2 := Lib.hid hr2
    have HL := Lib.hid (pathF_len n l i hn hin)
    have HD := Lib.hid (depthF_le 63 i n (by omega) hin)
    have nb1 : ((n : Int) == 1) = false := by rw [beq_eq_false_iff_ne]; omega
    by_cases hs : i < k
    · have e := pathF_left (l := l) (i := i) (by omega) (by rw [hn, hk]; exact hs)
      rw [hn, hk] at e
      obtain ⟨x2, hx2⟩ : ∃ x2, rootF (l.drop k) = x2 := ⟨_, rfl⟩
      obtain ⟨r1, hr1'⟩ : ∃ r1, pathF (l.take k) i = r1 := ⟨_, rfl⟩
      rw [hx2, hr1', hr0.out] at e
      subst e
      have HX2 := Lib.hid hx2
      have HP1 := Lib.hid hr1'
      have HK := Lib.hid hk
      have HLL : Hid (r1.length + 1 ≤ 63) := Lib.hid (by have h1 := HL.out; have h2 := HD.out; rw [hr0.out] at h1; simp at h1; omega)
      have s1 : (i : Int) < (k : Int) := by omega
      clear hr hr1 hr2 hi8 hz8 hx2 hr1' hk hy
      go_enter Try.func26, Try.ntmps26
      go_wp2_with (go_at_call 30; refine (msplit_any _ n rfl hn2 (by omega) _).mono ?_; rintro e w1 ⟨rfl, rfl⟩; rw [HK.out])
      refine wp_region_held_drew (S := fun _ => True) (by kernel_rfl) trivial (fun _ => ?_)
      refine held_pure 0 15 (.slice (some ⟨g, off, none⟩) n c) rfl (fun W => by rfl) trivial ?_
      try simp only [Act.put, List.setIfInBounds_toArray, List.set_cons_zero, List.set_cons_succ]
      refine held_pure 1 16 (.int .i64 (k : Int)) rfl (fun W => by rfl) trivial ?_
      try simp only [Act.put, List.setIfInBounds_toArray, List.set_cons_zero, List.set_cons_succ]
      refine held_pure 2 17 (.slice (some ⟨g, off, none⟩) k c) rfl (fun W => by go_simp) trivial ?_
      try simp only [Act.put, List.setIfInBounds_toArray, List.set_cons_zero, List.set_cons_succ]
      refine held_pure 3 18 (.int .i64 (i : Int)) rfl (fun W => by rfl) trivial ?_
      try simp only [Act.put, List.setIfInBounds_toArray, List.set_cons_zero, List.set_cons_succ]
      refine held_pure 5 20 (.slice (some ⟨g, off, none⟩) n c) rfl (fun W => by rfl) trivial ?_
      try simp only [Act.put, List.setIfInBounds_toArray, List.set_cons_zero, List.set_cons_succ]
      refine held_pure 6 21 (.int .i64 (k : Int)) rfl (fun W => by rfl) trivial ?_
      try simp only [Act.put, List.setIfInBounds_toArray, List.set_cons_zero, List.set_cons_succ]
      refine held_pure 7 22 (.slice (some ⟨g, off + k * 8, none⟩) (n - k) (c - k)) rfl (fun W => by go_simp) trivial ?_
      try simp only [Act.put, List.setIfInBounds_toArray, List.set_cons_zero, List.set_cons_succ]
      refine held_one (i := 4) (by kernel_rfl) rfl (by rfl) (fun K hK => ?_)
      go_wp2_with fail
      refine (ih k k2 _ (l.take k) c i _ r1 rfl (by rw [List.length_take]; omega) hs HP1 (by rw [List.length_take]; omega) hm w.drew HR1.out).mono ?_
      rintro e w1 ⟨v1, rfl, ho1, hb1⟩
      have hF1 : Fr w 0 w1 := (Fr.refl w).drew.next hb1
      obtain ⟨A1, n1, c1, rfl, hn1, hc1, hm1, hr1⟩ := ON.form_n ho1
      go_wp2_with fail
      refine hK.out _ _ trivial (fun _ => ?_)
      clear hK K
      try simp only [Act.put, List.setIfInBounds_toArray, List.set_cons_zero, List.set_cons_succ]
      refine held_one (i := 8) (by kernel_rfl) rfl (by rfl) (fun K hK => ?_)
      go_wp2_with fail
      refine (mroot_any (n - k) _ (l.drop k) (c - k) x2 (by rw [List.length_drop]; omega) HX2 (by rw [List.length_drop]; omega) (by omega) _ ((HR2.out.keep hF1.1).mono hF1.1.size)).mono ?_
      rintro e w2 ⟨rfl, hb2⟩
      have hF2 := hF1.next hb2
      have hr12 := RN.next hr1 hb2
      go_wp2_with fail
      refine hK.out _ _ trivial (fun _ => ?_)
      clear hK K
      try simp only [Act.put, List.setIfInBounds_toArray, List.set_cons_zero, List.set_cons_succ]
      refine held_one (i := 9) (by kernel_rfl) rfl (by rfl) (fun K hK => ?_)
      go_wp2_with fail
      refine (mextend_any A1 n1 c1 r1 x2 hn1.out (by rw [hn1.out]; exact hc1) (by have := HLL.out; omega) _ hr12.out).mono ?_
      rintro e w3 ⟨v3, rfl, ho3, hb3⟩
      have hF3 := hF2.next hb3
      have ho4 := on_base ho3 hF2.1.size
      go_wp2_with fail
      refine hK.out _ _ trivial (fun _ => ?_)
      clear hK K
      try simp only [Act.put, List.setIfInBounds_toArray, List.set_cons_zero, List.set_cons_succ]
      refine held_pure 10 4 v3 rfl (fun _ => rfl) trivial ?_
      refine wpAnyH_done (by kernel_rfl) ?_ _
      try simp only [Act.put, List.setIfInBounds_toArray, List.set_cons_zero, List.set_cons_succ]
      go_wp2_with fail
      go_ret
      exact ⟨_, rfl, ho4, hF3.1⟩
    · have e := pathF_right (l := l) (i := i) (by omega) (by rw [hn, hk]; omega)
      rw [hn, hk] at e
      obtain ⟨x2, hx2⟩ : ∃ x2, rootF (l.take k) = x2 := ⟨_, rfl⟩
      obtain ⟨r1, hr1'⟩ : ∃ r1, pathF (l.drop k) (i - k) = r1 := ⟨_, rfl⟩
      rw [hx2, hr1', hr0.out] at e
      subst e
      have HX2 := Lib.hid hx2
      have HP1 := Lib.hid hr1'
      have HK := Lib.hid hk
      have HLL : Hid (r1.length + 1 ≤ 63) := Lib.hid (by have h1 := HL.out; have h2 := HD.out; rw [hr0.out] at h1; simp at h1; omega)
      have s1 : ¬ (i : Int) < (k : Int) := by omega
      have hw1 : IntKind.i64.wrap ((i : Int) - (k : Int)) = (i : Int) - (k : Int) := by rw [IntKind.wrap_i64]; omega
      clear hr hr1 hr2 hi8 hz8 hx2 hr1' hk hy
      go_enter Try.func26, Try.ntmps26
      go_wp2_with (go_at_call 30; refine (msplit_any _ n rfl hn2 (by omega) _).mono ?_; rintro e w1 ⟨rfl, rfl⟩; rw [HK.out])
      refine wp_region_held_drew (S := fun _ => True) (by kernel_rfl) trivial (fun _ => ?_)
      refine held_pure 0 25 (.slice (some ⟨g, off, none⟩) n c) rfl (fun W => by rfl) trivial ?_
      try simp only [Act.put, List.setIfInBounds_toArray, List.set_cons_zero, List.set_cons_succ]
      refine held_pure 1 26 (.int .i64 (k : Int)) rfl (fun W => by rfl) trivial ?_
      try simp only [Act.put, List.setIfInBounds_toArray, List.set_cons_zero, List.set_cons_succ]
      refine held_pure 2 27 (.slice (some ⟨g, off + k * 8, none⟩) (n - k) (c - k)) rfl (fun W => by go_simp) trivial ?_
      try simp only [Act.put, List.setIfInBounds_toArray, List.set_cons_zero, List.set_cons_succ]
      refine held_pure 3 28 (.int .i64 (i : Int)) rfl (fun W => by rfl) trivial ?_
      try simp only [Act.put, List.setIfInBounds_toArray, List.set_cons_zero, List.set_cons_succ]
      refine held_pure 4 29 (.int .i64 (k : Int)) rfl (fun W => by rfl) trivial ?_
      try simp only [Act.put, List.setIfInBounds_toArray, List.set_cons_zero, List.set_cons_succ]
      refine held_pure 5 30 (.int .i64 ((i : Int) - (k : Int))) rfl (fun W => by go_simp) trivial ?_
      try simp only [Act.put, List.setIfInBounds_toArray, List.set_cons_zero, List.set_cons_succ]
      refine held_pure 7 32 (.slice (some ⟨g, off, none⟩) n c) rfl (fun W => by rfl) trivial ?_
      try simp only [Act.put, List.setIfInBounds_toArray, List.set_cons_zero, List.set_cons_succ]
      refine held_pure 8 33 (.int .i64 (k : Int)) rfl (fun W => by rfl) trivial ?_
      try simp only [Act.put, List.setIfInBounds_toArray, List.set_cons_zero, List.set_cons_succ]
      refine held_pure 9 34 (.slice (some ⟨g, off, none⟩) k c) rfl (fun W => by go_simp) trivial ?_
      try simp only [Act.put, List.setIfInBounds_toArray, List.set_cons_zero, List.set_cons_succ]
      refine held_one (i := 6) (by kernel_rfl) rfl (by rfl) (fun K hK => ?_)
      go_wp2_with fail
      refine (ih (n - k) (by omega) _ (l.drop k) (c - k) (i - k) _ r1 (by omega) (by rw [List.length_drop]; omega) (by omega) HP1 (by rw [List.length_drop]; omega) (by omega) w.drew HR2.out).mono ?_
      rintro e w1 ⟨v1, rfl, ho1, hb1⟩
      have hF1 : Fr w 0 w1 := (Fr.refl w).drew.next hb1
      obtain ⟨A1, n1, c1, rfl, hn1, hc1, hm1, hr1⟩ := ON.form_n ho1
      go_wp2_with fail
      refine hK.out _ _ trivial (fun _ => ?_)
      clear hK K
      try simp only [Act.put, List.setIfInBounds_toArray, List.set_cons_zero, List.set_cons_succ]
      refine held_one (i := 10) (by kernel_rfl) rfl (by rfl) (fun K hK => ?_)
      go_wp2_with fail
      refine (mroot_any k _ (l.take k) c x2 (by rw [List.length_take]; omega) HX2 (by rw [List.length_take]; omega) (by omega) _ ((HR1.out.keep hF1.1).mono hF1.1.size)).mono ?_
      rintro e w2 ⟨rfl, hb2⟩
      have hF2 := hF1.next hb2
      have hr12 := RN.next hr1 hb2
      go_wp2_with fail
      refine hK.out _ _ trivial (fun _ => ?_)
      clear hK K
      try simp only [Act.put, List.setIfInBounds_toArray, List.set_cons_zero, List.set_cons_succ]
      refine held_one (i := 11) (by kernel_rfl) rfl (by rfl) (fun K hK => ?_)
      go_wp2_with fail
      refine (mextend_any A1 n1 c1 r1 x2 hn1.out (by rw [hn1.out]; exact hc1) (by have := HLL.out; omega) _ hr12.out).mono ?_
      rintro e w3 ⟨v3, rfl, ho3, hb3⟩
      have hF3 := hF2.next hb3
      have ho4 := on_base ho3 hF2.1.size
      go_wp2_with fail
      refine hK.out _ _ trivial (fun _ => ?_)
      clear hK K
      try simp only [Act.put, List.setIfInBounds_toArray, List.set_cons_zero, List.set_cons_succ]
      refine held_pure 12 4 v3 rfl (fun _ => rfl) trivial ?_
      refine wpAnyH_done (by kernel_rfl) ?_ _
      try simp only [Act.put, List.setIfInBounds_toArray, List.set_cons_zero, List.set_cons_succ]
      go_wp2_with fail
      go_ret
      exact ⟨_, rfl, ho4, hF3.1⟩

theorem mpath_yes (A : Option Addr) (l : List (BitVec 64)) (n c i : Nat) (I : Int) (r : List (BitVec 64)) (hI : I = (i : Int)) (hn : l.length = n) (hin : i < n) (hr0 : Hid (pathF l i = r)) (hc : l.length ≤ c) (hm : c ≤ 9223372036854775807) (w : World) (hr : RN w w.heap.size A l) :
    Calls Try.prog 11 #[.slice A n c, .int .i64 I] w (RetN w 27 (r, true)) := by
  subst hI
  have HR := Lib.hid hr
  have s0 : (i : Int) < (n : Int) := by omega
  clear hr
  go_enter Try.func11, Try.ntmps11
  go_wp2_with (go_at_call 26; refine (mgrow_any n A l c i _ r rfl hn hin hr0 hc hm _ HR.out).mono ?_; rintro e w1 ⟨v1, rfl, ho1, hb1⟩)
  go_ret2
  exact ⟨_, rfl, ho1, hb1⟩

theorem mpath_no (A : Option Addr) (n c : Nat) (I : Int) (h : I < 0 ∨ (n : Int) ≤ I) (hI : I64 I) (w : World) :
    Calls Try.prog 11 #[.slice A n c, .int .i64 I] w (RetN w 27 ([], false)) := by
  obtain ⟨h3, h4⟩ := hI
  by_cases h0 : I < 0
  · go_enter Try.func11, Try.ntmps11
    go_wp2_with fail
    go_ret2
    exact ⟨_, rfl, ON.nil _ _ _, Below.refl _ _⟩
  · have h5 : (n : Int) ≤ I := by omega
    clear h
    go_enter Try.func11, Try.ntmps11
    go_wp2_with fail
    go_ret2
    exact ⟨_, rfl, ON.nil _ _ _, Below.refl _ _⟩
end Go.Proofs.Ytllciohpphngiaa
