/-
  The statement MerkleBinds, proved for all names, numbers and slices of names, with no condition: if two unlike leaves are accepted at one position with one root, then the two computations contain two unlike inputs with one hash.
-/
import Derived.Test.YtllciohpphngiaaLaw3A
import Derived.Test.YtllciohpphngiaaClimbW
namespace Go.Proofs.Ytllciohpphngiaa.merkleBinds
open Go.ChangeShapes Go.WideShapes Go.ChangeAt Go.RowKit Go.Fl

attribute [local go_sem] equal_nm eqGuard_nm bsOf_toList

/-- A guarded operation that isn't wanted. -/
theorem held_skip {P : Program} {md : Region.Mode} {ops : Array Oper} {Q : Exit → Act → World → Prop} {S : World → Prop} {fuel : Nat} {listed : Array Bool} {a : Act} {w : World} (i d : Nat) {oi : Oper} (hi : ops[i]? = some oi) (h4 : Region.wanted oi (yielded ops a.tmps) = false) (hS : S w)
    (h : wpAnyH P md ops Q S fuel (listed.setIfInBounds i true) (a.put (some d) undef) w) (hd : oi.dst = some d := by rfl)
    (h1 : Region.noSelect ops = true := by kernel_rfl) (h2 : Region.free md ops listed i = true := by kernel_rfl) (h3 : (Region.ready md ops listed).contains i = true := by kernel_rfl)
    (h5 : ∀ c a w, Q (.panic c) (a.put (some d) undef) w → Q (.panic c) a w := by exact fun _ _ _ h => h) :
    wpAnyH P md ops Q S (fuel + 1) listed a w :=
  wpAnyH_take hi h1 h2 h3 (by rw [hd]; exact h5) (Or.inr ⟨h4, rfl⟩) hS (by rw [hd]; exact h)

theorem verify_true {y x : BitVec 64} {i n : Int} {p : List (BitVec 64)} (h : verifyP y x i n p = true) : ∃ a b : Nat, i = (a : Int) ∧ n = (b : Int) ∧ a < b ∧ p.length = depthF a b ∧ followF x a b p = y := by
  unfold verifyP followP at h
  split at h
  · rename_i hd
    have h3 : 0 ≤ i ∧ i < n := by
      have := hd.1
      unfold depthI at this
      split at this
      · assumption
      · omega
    obtain ⟨a, rfl⟩ : ∃ q : Nat, i = (q : Int) := ⟨i.toNat, by omega⟩
    obtain ⟨b, rfl⟩ : ∃ q : Nat, n = (q : Int) := ⟨n.toNat, by omega⟩
    have hd2 := hd.2
    rw [depthI_nat a b (by omega)] at hd2
    refine ⟨a, b, rfl, rfl, by omega, by omega, ?_⟩
    have h2 : nmEq (followF x (Int.toNat a) (Int.toNat b) p) y = true := by simpa using h
    rw [Int.toNat_natCast, Int.toNat_natCast] at h2
    exact nmEq_true.1 h2
  · simp at h

def bindW (w : World) (y a b : BitVec 64) : World := ((w.alloc (.cells (nmC y) 27)).alloc (.cells (nmC a) 27)).alloc (.cells (nmC b) 27)
theorem bindW_facts (w : World) (y a b : BitVec 64) : Is (bindW w y a b) w.heap.size 27 (nmC y) ∧ Is (bindW w y a b) (w.heap.size + 1) 27 (nmC a) ∧ Is (bindW w y a b) (w.heap.size + 1 + 1) 27 (nmC b) ∧ Fr w 3 (bindW w y a b) :=
  ⟨((Is.new w _ _).old _).old _, (Is.newAt _ _ _ (by simp)).old _, Is.newAt _ _ _ (by simp), (((Fr.refl w).alloc _).alloc _).alloc _⟩

theorem walk_eq (w : World) (y a : BitVec 64) (i n : Int) (vp vq : Value) :
    Calls Try.prog 9 #[nm y, nm a, nm a, .int .i64 i, .int .i64 n, vp, vq] w fun e w' => e = .returned (.bool true) ∧ Below w.heap.size w w' := by
  obtain ⟨hy, ha, hb, hF⟩ := bindW_facts w y a a
  have haa := nmEq_self a
  go_enter Try.func9, Try.ntmps9
  go_wp2_with fail
  refine (awake_any (bindW w y a a)).mono ?_
  rintro e w1 ⟨rfl, hb1⟩
  go_wp2_with fail
  go_ret
  exact ⟨rfl, (hF.next hb1).1⟩

theorem walk_no1 (w : World) (y a b : BitVec 64) (i n : Int) (vp vq : Value) (p : List (BitVec 64)) (hab : a ≠ b) (hi : I64 i) (hn : I64 n) (hvp : VN w vp p) (hp : p.length ≤ 17592186044160) (h1 : verifyP y a i n p = false) :
    Calls Try.prog 9 #[nm y, nm a, nm b, .int .i64 i, .int .i64 n, vp, vq] w fun e w' => e = .returned (.bool true) ∧ Below w.heap.size w w' := by
  obtain ⟨hy, ha, hb, hF⟩ := bindW_facts w y a b
  have haa := nmEq_ne hab
  have H1 := Lib.hid h1
  clear h1
  go_enter Try.func9, Try.ntmps9
  go_wp2_with fail
  refine (merkleM.verify (bindW w y a b) y a i n vp p false (hvp.next hF.1) hp hi hn H1).mono ?_
  rintro e w1 ⟨rfl, hb1⟩
  go_wp2_with (go_at_call 16; refine (awake_any _).mono ?_; rintro e w2 ⟨rfl, hb2⟩)
  go_ret
  exact ⟨rfl, ((hF.next hb1).next hb2).1⟩

theorem walk_no2 (w : World) (y a b : BitVec 64) (i n : Int) (vp vq : Value) (p q : List (BitVec 64)) (hab : a ≠ b) (hi : I64 i) (hn : I64 n) (hvp : VN w vp p) (hp : p.length ≤ 17592186044160) (hvq : VN w vq q) (hq : q.length ≤ 17592186044160) (h1 : verifyP y a i n p = true) (h2 : verifyP y b i n q = false) :
    Calls Try.prog 9 #[nm y, nm a, nm b, .int .i64 i, .int .i64 n, vp, vq] w fun e w' => e = .returned (.bool true) ∧ Below w.heap.size w w' := by
  obtain ⟨hy, ha, hb, hF⟩ := bindW_facts w y a b
  have haa := nmEq_ne hab
  have H1 := Lib.hid h1
  have H2 := Lib.hid h2
  clear h1 h2
  go_enter Try.func9, Try.ntmps9
  go_wp2_with fail
  refine (merkleM.verify (bindW w y a b) y a i n vp p true (hvp.next hF.1) hp hi hn H1).mono ?_
  rintro e w1 ⟨rfl, hb1⟩
  generalize bindW w y a b = W at *
  have hF1 := hF.next hb1
  have c0 := (hy.next hb1).cell
  have c2 := (hb.next hb1).cell
  go_wp2_with fail
  refine (merkleM.verify w1 y b i n vq q false (hvq.next hF1.1) hq hi hn H2).mono ?_
  rintro e w2 ⟨rfl, hb2⟩
  clear c0 c2
  go_wp2_with (go_at_call 16; refine (awake_any _).mono ?_; rintro e w3 ⟨rfl, hb3⟩)
  go_ret
  exact ⟨rfl, ((hF1.next hb2).next hb3).1⟩

set_option maxHeartbeats 1500000 in
set_option maxRecDepth 4000 in
theorem walk_yes (w : World) (y a b : BitVec 64) (i n : Int) (vp vq : Value) (p q : List (BitVec 64)) (hab : a ≠ b) (hi : I64 i) (hn : I64 n) (hvp : VN w vp p) (hp : p.length ≤ 17592186044160) (hvq : VN w vq q) (hq : q.length ≤ 17592186044160) (h1 : verifyP y a i n p = true) (h2 : verifyP y b i n q = true) :
    Calls Try.prog 9 #[nm y, nm a, nm b, .int .i64 i, .int .i64 n, vp, vq] w fun e w' => e = .returned (.bool true) ∧ Below w.heap.size w w' := by
  obtain ⟨hy, ha, hb, hF⟩ := bindW_facts w y a b
  have haa := nmEq_ne hab
  obtain ⟨ii, nn, rfl, rfl, hlt, hpl, hfp⟩ := verify_true h1
  obtain ⟨i2, n2, e1, e2, -, hql, hfq⟩ := verify_true h2
  obtain rfl : ii = i2 := by omega
  obtain rfl : nn = n2 := by omega
  obtain ⟨K0, X0, Y0, hK0, hX0, hY0, hne0, heq0⟩ := climb_bind nn ii a b p q hab (hfp.trans hfq.symm)
  have hla := climb_len nn ii a p
  have hlb := climb_len nn ii b q
  obtain ⟨LA, hLA⟩ : ∃ L, climbF a ii nn p = L := ⟨_, rfl⟩
  obtain ⟨LB, hLB⟩ : ∃ L, climbF b ii nn q = L := ⟨_, rfl⟩
  rw [hLA] at hla hX0
  rw [hLB] at hlb hY0
  obtain ⟨D, hD⟩ : ∃ D, depthF ii nn = D := ⟨_, rfl⟩
  have hn63 : nn ≤ 9223372036854775807 := by have := hn.2; omega
  have hD63 : D ≤ 63 := by rw [← hD]; exact depthF_le 63 ii nn (by omega) hlt
  rw [hD] at hpl hql hla hlb hK0
  have H1 := Lib.hid h1
  have H2 := Lib.hid h2
  have HLA := Lib.hid hLA
  have HLB := Lib.hid hLB
  have HPL : Hid (p.length = depthF ii nn) := Lib.hid (by omega)
  have HQL : Hid (q.length = depthF ii nn) := Lib.hid (by omega)
  have HA := Lib.hid hla
  have HB := Lib.hid hlb
  have HX0 := Lib.hid hX0
  have HY0 := Lib.hid hY0
  have HN0 := Lib.hid hne0
  have HE0 := Lib.hid heq0
  obtain ⟨A, c, rfl, k1, k2, hrp⟩ := hvp
  obtain ⟨A2, c2, rfl, k3, k4, hrq⟩ := hvq
  have HRP := Lib.hid hrp
  have HRQ := Lib.hid hrq
  rw [hpl] at k1 ⊢
  rw [hql] at k3 ⊢
  have dd : (D : Int) ≤ 63 := by omega
  have b1 : ((D : Int) == (D : Int)) = true := by simp
  have HPD := Lib.hid hpl
  have HQD := Lib.hid hql
  clear h1 h2 hLA hLB hla hlb hX0 hY0 hne0 heq0 hrp hrq hfp hfq hD e1 e2
  go_enter Try.func9, Try.ntmps9
  go_wp2_with fail
  refine (merkleM.verify (bindW w y a b) y a ii nn _ p true ⟨A, c, by rw [HPD.out], by omega, k2, (HRP.out.keep hF.1).mono hF.1.size⟩ hp hi hn H1).mono ?_
  rintro e w1 ⟨rfl, hb1⟩
  generalize bindW w y a b = W at *
  have hF1 := hF.next hb1
  have hy1 := hy.next hb1
  have ha1 := ha.next hb1
  have hb1' := hb.next hb1
  have c0 := hy1.cell
  have cc2 := hb1'.cell
  go_wp2_with fail
  refine (merkleM.verify w1 y b ii nn _ q true ⟨A2, c2, by rw [HQD.out], by omega, k4, (HRQ.out.keep hF1.1).mono hF1.1.size⟩ hq hi hn H2).mono ?_
  rintro e w2 ⟨rfl, hb2⟩
  have hF2 := hF1.next hb2
  have ha2 := ha1.next hb2
  have hb2' := hb1'.next hb2
  clear c0 cc2 hy hy1 ha ha1 hb hb1' hF hF1 hb1 hb2
  go_wp2
  refine wp_region_held_drew (S := fun w' => Is w' (w.heap.size + 1) 27 (nmC a) ∧ Is w' (w.heap.size + 1 + 1) 27 (nmC b) ∧ Fr w 3 w') (by kernel_rfl) ⟨ha2.drew, hb2'.drew, hF2.drew⟩ (fun hHeld => ?_)
  refine held_load 0 50 rfl 27 (.tmp 8) rfl (w.heap.size + 1) 0 rfl (nmR a) (fun w' h => range_is (cs := nmR a) h.1) Try.underlying27 name_info hHeld ?_
  try simp only [Act.put, List.setIfInBounds_toArray, List.set_cons_zero, List.set_cons_succ]
  refine held_pure 1 51 (.int .i64 (ii : Int)) rfl (fun W => by rfl) hHeld ?_
  try simp only [Act.put, List.setIfInBounds_toArray, List.set_cons_zero, List.set_cons_succ]
  refine held_pure 2 52 (.int .i64 (nn : Int)) rfl (fun W => by rfl) hHeld ?_
  try simp only [Act.put, List.setIfInBounds_toArray, List.set_cons_zero, List.set_cons_succ]
  refine held_pure 3 53 (.slice A D c) rfl (fun W => by rfl) hHeld ?_
  try simp only [Act.put, List.setIfInBounds_toArray, List.set_cons_zero, List.set_cons_succ]
  refine held_load 5 55 rfl 27 (.tmp 9) rfl (w.heap.size + 1 + 1) 0 rfl (nmR b) (fun w' h => range_is (cs := nmR b) h.2.1) Try.underlying27 name_info hHeld ?_
  try simp only [Act.put, List.setIfInBounds_toArray, List.set_cons_zero, List.set_cons_succ]
  refine held_pure 6 56 (.int .i64 (ii : Int)) rfl (fun W => by rfl) hHeld ?_
  try simp only [Act.put, List.setIfInBounds_toArray, List.set_cons_zero, List.set_cons_succ]
  refine held_pure 7 57 (.int .i64 (nn : Int)) rfl (fun W => by rfl) hHeld ?_
  try simp only [Act.put, List.setIfInBounds_toArray, List.set_cons_zero, List.set_cons_succ]
  refine held_pure 8 58 (.slice A2 D c2) rfl (fun W => by rfl) hHeld ?_
  try simp only [Act.put, List.setIfInBounds_toArray, List.set_cons_zero, List.set_cons_succ]
  refine held_one (i := 4) (by kernel_rfl) rfl (by rfl) (fun KK hK => ?_)
  go_wp2_with fail
  refine (climb_any nn a ii A p D c _ _ rfl rfl hlt hn63 HPD.out HPL.out (by have := HPD.out; omega) k2 _ ((HRP.out.keep hHeld.2.2.1).mono (by have := hHeld.2.2.2; omega))).mono ?_
  rintro e w3 ⟨v3, rfl, ho3, hb⟩
  rw [HLA.out] at ho3
  go_wp2_with fail
  refine hK.out _ _ ⟨hHeld.1.next hb, hHeld.2.1.next hb, hHeld.2.2.next hb⟩ (fun hHeld1 => ?_)
  clear hK KK
  try simp only [Act.put, List.setIfInBounds_toArray, List.set_cons_zero, List.set_cons_succ]
  refine held_one (i := 9) (by kernel_rfl) rfl (by rfl) (fun KK hK => ?_)
  go_wp2_with fail
  refine (climb_any nn b ii A2 q D c2 _ _ rfl rfl hlt hn63 HQD.out HQL.out (by have := HQD.out; omega) k4 _ ((HRQ.out.keep hHeld1.2.2.1).mono (by have := hHeld1.2.2.2; omega))).mono ?_
  rintro e w4 ⟨v4, rfl, ho4, hb⟩
  rw [HLB.out] at ho4
  have ho3 := ho3.keep hb
  go_wp2_with fail
  refine hK.out _ _ ⟨hHeld1.1.next hb, hHeld1.2.1.next hb, hHeld1.2.2.next hb⟩ (fun hHeld2 => ?_)
  clear hK KK
  try simp only [Act.put, List.setIfInBounds_toArray, List.set_cons_zero, List.set_cons_succ]
  refine held_pure 10 15 (v3) rfl (fun W => by rfl) hHeld2 ?_
  try simp only [Act.put, List.setIfInBounds_toArray, List.set_cons_zero, List.set_cons_succ]
  refine held_pure 11 16 (v4) rfl (fun W => by rfl) hHeld2 ?_
  try simp only [Act.put, List.setIfInBounds_toArray, List.set_cons_zero, List.set_cons_succ]
  refine wpAnyH_done (by kernel_rfl) ?_ _
  try simp only [Act.put, List.setIfInBounds_toArray, List.set_cons_zero, List.set_cons_succ]
  obtain ⟨gx, cx, rfl, x1, x2, x3, x4, hatx⟩ := ho3.form (by have := HA.out; omega)
  obtain ⟨gy, cy, rfl, y1, y2, y3, y4, haty⟩ := ho4.form (by have := HB.out; omega)
  have hF4 := hHeld2.2.2
  have LA1 := HA.out
  have LB1 := HB.out
  rw [LA1, LB1]
  clear ho3 ho4 hHeld hHeld1 hHeld2 ha2 hb2' hF2
  go_wp2
  go_loopw [17] (fun v wr => ∃ k : Nat, k ≤ K0 ∧ v = .int .i64 (k : Int) ∧ Below w4.heap.size w4 wr) (fun v _ => K0 + 1 - (intOf v).toNat)
  case atStart => exact ⟨0, Nat.zero_le _, rfl, Below.refl _ _⟩
  case round =>
    obtain ⟨k, hk, rfl, hBr⟩ := hrel
    have s1 : (k : Int) < ((D + 1 : Nat) : Int) := by omega
    have s2 : (k : Int) < (D : Int) + 1 := by omega
    have s0 : (0 : Int) ≤ (k : Int) := by omega
    obtain ⟨⟨Xb, Xo⟩, hX⟩ : ∃ X, LA[k]? = some X := ⟨_, List.getElem?_eq_getElem (by omega)⟩
    obtain ⟨⟨Yb, Yo⟩, hY⟩ : ∃ Y, LB[k]? = some Y := ⟨_, List.getElem?_eq_getElem (by omega)⟩
    have rx := range_keep (hatx k _ hX).1 hBr x4
    have ry := range_keep (haty k _ hY).1 hBr y4
    have sx : wr.cell? ⟨gx, k * 9, none⟩ = some (.string (bsOf Xb)) := (hBr.cell x4).trans (hatx k _ hX).2
    have sy : wr.cell? ⟨gy, k * 9, none⟩ = some (.string (bsOf Yb)) := (hBr.cell y4).trans (haty k _ hY).2
    have SX := Lib.hid sx
    have SY := Lib.hid sy
    have RX : Hid (wr.rangeAt gx (k * 9 + 1) (nmR Xo)) := Lib.hid rx
    have RY : Hid (wr.rangeAt gy (k * 9 + 1) (nmR Yo)) := Lib.hid ry
    have gxr : gx < wr.heap.size := by have := hBr.size; omega
    have gyr : gy < wr.heap.size := by have := hBr.size; omega
    have hk0 : ¬ (Xb ≠ Yb ∧ Xo = Yo) → k < K0 := fun hno => by
      rcases Nat.lt_or_ge k K0 with h | h
      · exact h
      · obtain rfl : k = K0 := by omega
        have e3 := HX0.out
        have e4 := HY0.out
        rw [hX] at e3
        rw [hY] at e4
        cases e3
        cases e4
        exact absurd ⟨HN0.out, HE0.out⟩ hno
    clear sx sy rx ry hX hY
    by_cases hs : Xb = Yb
    · subst hs
      have hk1 := hk0 (fun h => h.1 rfl)
      have sb : (Xb == Xb) = true := by simp
      clear hk0
      go_wp2
      refine wp_region_held_drew (S := fun w' => Below wr.heap.size wr w') (by kernel_rfl) (Below.refl _ _).drew (fun hHeld => ?_)
      refine held_pure 0 72 (.slice (some ⟨gx, 0, none⟩) (D + 1) cx) rfl (fun W => by rfl) hHeld ?_
      try simp only [Act.put, List.setIfInBounds_toArray, List.set_cons_zero, List.set_cons_succ]
      refine held_pure 1 73 (.int .i64 (k : Int)) rfl (fun W => by rfl) hHeld ?_
      try simp only [Act.put, List.setIfInBounds_toArray, List.set_cons_zero, List.set_cons_succ]
      refine held_pure 2 74 (.pointer (some ⟨gx, k * 9, none⟩)) rfl (fun W => by go_simp) hHeld ?_
      try simp only [Act.put, List.setIfInBounds_toArray, List.set_cons_zero, List.set_cons_succ]
      refine held_pure 3 75 (.pointer (some ⟨gx, k * 9, none⟩)) rfl (fun W => by go_simp) hHeld ?_
      try simp only [Act.put, List.setIfInBounds_toArray, List.set_cons_zero, List.set_cons_succ]
      refine held_if 4 76 (.string (bsOf Xb)) rfl (fun w' h => by (have hc := (h.cell (p := ⟨gx, k * 9, none⟩) gxr).trans SX.out; go_simp)) hHeld ?_
      try simp only [Act.put, List.setIfInBounds_toArray, List.set_cons_zero, List.set_cons_succ]
      refine held_pure 5 77 (.slice (some ⟨gy, 0, none⟩) (D + 1) cy) rfl (fun W => by rfl) hHeld ?_
      try simp only [Act.put, List.setIfInBounds_toArray, List.set_cons_zero, List.set_cons_succ]
      refine held_pure 6 78 (.int .i64 (k : Int)) rfl (fun W => by rfl) hHeld ?_
      try simp only [Act.put, List.setIfInBounds_toArray, List.set_cons_zero, List.set_cons_succ]
      refine held_pure 7 79 (.pointer (some ⟨gy, k * 9, none⟩)) rfl (fun W => by go_simp) hHeld ?_
      try simp only [Act.put, List.setIfInBounds_toArray, List.set_cons_zero, List.set_cons_succ]
      refine held_pure 8 80 (.pointer (some ⟨gy, k * 9, none⟩)) rfl (fun W => by go_simp) hHeld ?_
      try simp only [Act.put, List.setIfInBounds_toArray, List.set_cons_zero, List.set_cons_succ]
      refine held_if 9 81 (.string (bsOf Xb)) rfl (fun w' h => by (have hc := (h.cell (p := ⟨gy, k * 9, none⟩) gyr).trans SY.out; go_simp)) hHeld ?_
      try simp only [Act.put, List.setIfInBounds_toArray, List.set_cons_zero, List.set_cons_succ]
      refine held_pure 10 82 (.bool false) rfl (fun W => by go_simp) hHeld ?_
      try simp only [Act.put, List.setIfInBounds_toArray, List.set_cons_zero, List.set_cons_succ]
      refine held_pure 11 83 (.bool false) rfl (fun W => by rfl) hHeld ?_
      try simp only [Act.put, List.setIfInBounds_toArray, List.set_cons_zero, List.set_cons_succ]
      refine held_skip 12 84 rfl (by rfl) hHeld ?_
      try simp only [Act.put, List.setIfInBounds_toArray, List.set_cons_zero, List.set_cons_succ]
      refine held_skip 13 85 rfl (by rfl) hHeld ?_
      try simp only [Act.put, List.setIfInBounds_toArray, List.set_cons_zero, List.set_cons_succ]
      refine held_skip 14 86 rfl (by rfl) hHeld ?_
      try simp only [Act.put, List.setIfInBounds_toArray, List.set_cons_zero, List.set_cons_succ]
      refine held_skip 15 87 rfl (by rfl) hHeld ?_
      try simp only [Act.put, List.setIfInBounds_toArray, List.set_cons_zero, List.set_cons_succ]
      refine held_skip 16 88 rfl (by rfl) hHeld ?_
      try simp only [Act.put, List.setIfInBounds_toArray, List.set_cons_zero, List.set_cons_succ]
      refine held_skip 17 89 rfl (by rfl) hHeld ?_
      try simp only [Act.put, List.setIfInBounds_toArray, List.set_cons_zero, List.set_cons_succ]
      refine held_skip 18 90 rfl (by rfl) hHeld ?_
      try simp only [Act.put, List.setIfInBounds_toArray, List.set_cons_zero, List.set_cons_succ]
      refine held_skip 19 91 rfl (by rfl) hHeld ?_
      try simp only [Act.put, List.setIfInBounds_toArray, List.set_cons_zero, List.set_cons_succ]
      refine held_skip 20 92 rfl (by rfl) hHeld ?_
      try simp only [Act.put, List.setIfInBounds_toArray, List.set_cons_zero, List.set_cons_succ]
      refine held_skip 21 93 rfl (by rfl) hHeld ?_
      try simp only [Act.put, List.setIfInBounds_toArray, List.set_cons_zero, List.set_cons_succ]
      refine held_skip 22 94 rfl (by rfl) hHeld ?_
      try simp only [Act.put, List.setIfInBounds_toArray, List.set_cons_zero, List.set_cons_succ]
      refine held_pure 23 95 (.bool false) rfl (fun W => by rfl) hHeld ?_
      try simp only [Act.put, List.setIfInBounds_toArray, List.set_cons_zero, List.set_cons_succ]
      refine wpAnyH_done (by kernel_rfl) ?_ _
      try simp only [Act.put, List.setIfInBounds_toArray, List.set_cons_zero, List.set_cons_succ]
      go_wp2_with fail
      go_roundw
      case rel => exact ⟨k + 1, by omega, by go_num, hBr.trans ((Below.refl _ _).drew)⟩
      case measure => simp [intOf]; omega
    have sb : (Xb == Yb) = false := by rw [beq_eq_false_iff_ne]; exact hs
    have sb2 : (Xb != Yb) = true := by rw [bne, sb]; rfl
    by_cases ho : Xo = Yo
    · subst ho
      have he := nmEq_self Xo
      clear hk0
      go_wp2
      refine wp_region_held_drew (S := fun w' => Below wr.heap.size wr w') (by kernel_rfl) (Below.refl _ _).drew (fun hHeld => ?_)
      refine held_pure 0 72 (.slice (some ⟨gx, 0, none⟩) (D + 1) cx) rfl (fun W => by rfl) hHeld ?_
      try simp only [Act.put, List.setIfInBounds_toArray, List.set_cons_zero, List.set_cons_succ]
      refine held_pure 1 73 (.int .i64 (k : Int)) rfl (fun W => by rfl) hHeld ?_
      try simp only [Act.put, List.setIfInBounds_toArray, List.set_cons_zero, List.set_cons_succ]
      refine held_pure 2 74 (.pointer (some ⟨gx, k * 9, none⟩)) rfl (fun W => by go_simp) hHeld ?_
      try simp only [Act.put, List.setIfInBounds_toArray, List.set_cons_zero, List.set_cons_succ]
      refine held_pure 3 75 (.pointer (some ⟨gx, k * 9, none⟩)) rfl (fun W => by go_simp) hHeld ?_
      try simp only [Act.put, List.setIfInBounds_toArray, List.set_cons_zero, List.set_cons_succ]
      refine held_if 4 76 (.string (bsOf Xb)) rfl (fun w' h => by (have hc := (h.cell (p := ⟨gx, k * 9, none⟩) gxr).trans SX.out; go_simp)) hHeld ?_
      try simp only [Act.put, List.setIfInBounds_toArray, List.set_cons_zero, List.set_cons_succ]
      refine held_pure 5 77 (.slice (some ⟨gy, 0, none⟩) (D + 1) cy) rfl (fun W => by rfl) hHeld ?_
      try simp only [Act.put, List.setIfInBounds_toArray, List.set_cons_zero, List.set_cons_succ]
      refine held_pure 6 78 (.int .i64 (k : Int)) rfl (fun W => by rfl) hHeld ?_
      try simp only [Act.put, List.setIfInBounds_toArray, List.set_cons_zero, List.set_cons_succ]
      refine held_pure 7 79 (.pointer (some ⟨gy, k * 9, none⟩)) rfl (fun W => by go_simp) hHeld ?_
      try simp only [Act.put, List.setIfInBounds_toArray, List.set_cons_zero, List.set_cons_succ]
      refine held_pure 8 80 (.pointer (some ⟨gy, k * 9, none⟩)) rfl (fun W => by go_simp) hHeld ?_
      try simp only [Act.put, List.setIfInBounds_toArray, List.set_cons_zero, List.set_cons_succ]
      refine held_if 9 81 (.string (bsOf Yb)) rfl (fun w' h => by (have hc := (h.cell (p := ⟨gy, k * 9, none⟩) gyr).trans SY.out; go_simp)) hHeld ?_
      try simp only [Act.put, List.setIfInBounds_toArray, List.set_cons_zero, List.set_cons_succ]
      refine held_pure 10 82 (.bool true) rfl (fun W => by go_simp) hHeld ?_
      try simp only [Act.put, List.setIfInBounds_toArray, List.set_cons_zero, List.set_cons_succ]
      refine held_pure 11 83 (.bool true) rfl (fun W => by rfl) hHeld ?_
      try simp only [Act.put, List.setIfInBounds_toArray, List.set_cons_zero, List.set_cons_succ]
      refine held_pure 12 84 (.slice (some ⟨gx, 0, none⟩) (D + 1) cx) rfl (fun W => by rfl) hHeld ?_
      try simp only [Act.put, List.setIfInBounds_toArray, List.set_cons_zero, List.set_cons_succ]
      refine held_pure 13 85 (.int .i64 (k : Int)) rfl (fun W => by rfl) hHeld ?_
      try simp only [Act.put, List.setIfInBounds_toArray, List.set_cons_zero, List.set_cons_succ]
      refine held_pure 14 86 (.pointer (some ⟨gx, k * 9, none⟩)) rfl (fun W => by go_simp) hHeld ?_
      try simp only [Act.put, List.setIfInBounds_toArray, List.set_cons_zero, List.set_cons_succ]
      refine held_pure 15 87 (.pointer (some ⟨gx, k * 9 + 1, none⟩)) rfl (fun W => by go_simp) hHeld ?_
      try simp only [Act.put, List.setIfInBounds_toArray, List.set_cons_zero, List.set_cons_succ]
      refine held_load 16 88 rfl 27 (.tmp 87) rfl gx (k * 9 + 1) rfl (nmR Xo) (fun w' h => range_keep RX.out h gxr) Try.underlying27 name_info hHeld ?_
      try simp only [Act.put, List.setIfInBounds_toArray, List.set_cons_zero, List.set_cons_succ]
      refine held_pure 17 89 (.slice (some ⟨gy, 0, none⟩) (D + 1) cy) rfl (fun W => by rfl) hHeld ?_
      try simp only [Act.put, List.setIfInBounds_toArray, List.set_cons_zero, List.set_cons_succ]
      refine held_pure 18 90 (.int .i64 (k : Int)) rfl (fun W => by rfl) hHeld ?_
      try simp only [Act.put, List.setIfInBounds_toArray, List.set_cons_zero, List.set_cons_succ]
      refine held_pure 19 91 (.pointer (some ⟨gy, k * 9, none⟩)) rfl (fun W => by go_simp) hHeld ?_
      try simp only [Act.put, List.setIfInBounds_toArray, List.set_cons_zero, List.set_cons_succ]
      refine held_pure 20 92 (.pointer (some ⟨gy, k * 9 + 1, none⟩)) rfl (fun W => by go_simp) hHeld ?_
      try simp only [Act.put, List.setIfInBounds_toArray, List.set_cons_zero, List.set_cons_succ]
      refine held_load 21 93 rfl 27 (.tmp 92) rfl gy (k * 9 + 1) rfl (nmR Xo) (fun w' h => range_keep RY.out h gyr) Try.underlying27 name_info hHeld ?_
      try simp only [Act.put, List.setIfInBounds_toArray, List.set_cons_zero, List.set_cons_succ]
      refine held_pure 22 94 (.bool true) rfl (fun W => by go_simp) hHeld ?_
      try simp only [Act.put, List.setIfInBounds_toArray, List.set_cons_zero, List.set_cons_succ]
      refine held_pure 23 95 (.bool true) rfl (fun W => by rfl) hHeld ?_
      try simp only [Act.put, List.setIfInBounds_toArray, List.set_cons_zero, List.set_cons_succ]
      refine wpAnyH_done (by kernel_rfl) ?_ _
      try simp only [Act.put, List.setIfInBounds_toArray, List.set_cons_zero, List.set_cons_succ]
      go_wp2_with (go_at_call 16; refine (awake_any _).mono ?_; rintro e w9 ⟨rfl, hb9⟩)
      go_ret
      exact ⟨rfl, hF4.1.trans (((hBr.trans (Below.refl _ _).drew).trans (hb9.mono hBr.size)).mono (by have := hF4.2; omega))⟩
    · have he := nmEq_ne ho
      have hk1 := hk0 (fun h => ho h.2)
      clear hk0
      go_wp2
      refine wp_region_held_drew (S := fun w' => Below wr.heap.size wr w') (by kernel_rfl) (Below.refl _ _).drew (fun hHeld => ?_)
      refine held_pure 0 72 (.slice (some ⟨gx, 0, none⟩) (D + 1) cx) rfl (fun W => by rfl) hHeld ?_
      try simp only [Act.put, List.setIfInBounds_toArray, List.set_cons_zero, List.set_cons_succ]
      refine held_pure 1 73 (.int .i64 (k : Int)) rfl (fun W => by rfl) hHeld ?_
      try simp only [Act.put, List.setIfInBounds_toArray, List.set_cons_zero, List.set_cons_succ]
      refine held_pure 2 74 (.pointer (some ⟨gx, k * 9, none⟩)) rfl (fun W => by go_simp) hHeld ?_
      try simp only [Act.put, List.setIfInBounds_toArray, List.set_cons_zero, List.set_cons_succ]
      refine held_pure 3 75 (.pointer (some ⟨gx, k * 9, none⟩)) rfl (fun W => by go_simp) hHeld ?_
      try simp only [Act.put, List.setIfInBounds_toArray, List.set_cons_zero, List.set_cons_succ]
      refine held_if 4 76 (.string (bsOf Xb)) rfl (fun w' h => by (have hc := (h.cell (p := ⟨gx, k * 9, none⟩) gxr).trans SX.out; go_simp)) hHeld ?_
      try simp only [Act.put, List.setIfInBounds_toArray, List.set_cons_zero, List.set_cons_succ]
      refine held_pure 5 77 (.slice (some ⟨gy, 0, none⟩) (D + 1) cy) rfl (fun W => by rfl) hHeld ?_
      try simp only [Act.put, List.setIfInBounds_toArray, List.set_cons_zero, List.set_cons_succ]
      refine held_pure 6 78 (.int .i64 (k : Int)) rfl (fun W => by rfl) hHeld ?_
      try simp only [Act.put, List.setIfInBounds_toArray, List.set_cons_zero, List.set_cons_succ]
      refine held_pure 7 79 (.pointer (some ⟨gy, k * 9, none⟩)) rfl (fun W => by go_simp) hHeld ?_
      try simp only [Act.put, List.setIfInBounds_toArray, List.set_cons_zero, List.set_cons_succ]
      refine held_pure 8 80 (.pointer (some ⟨gy, k * 9, none⟩)) rfl (fun W => by go_simp) hHeld ?_
      try simp only [Act.put, List.setIfInBounds_toArray, List.set_cons_zero, List.set_cons_succ]
      refine held_if 9 81 (.string (bsOf Yb)) rfl (fun w' h => by (have hc := (h.cell (p := ⟨gy, k * 9, none⟩) gyr).trans SY.out; go_simp)) hHeld ?_
      try simp only [Act.put, List.setIfInBounds_toArray, List.set_cons_zero, List.set_cons_succ]
      refine held_pure 10 82 (.bool true) rfl (fun W => by go_simp) hHeld ?_
      try simp only [Act.put, List.setIfInBounds_toArray, List.set_cons_zero, List.set_cons_succ]
      refine held_pure 11 83 (.bool true) rfl (fun W => by rfl) hHeld ?_
      try simp only [Act.put, List.setIfInBounds_toArray, List.set_cons_zero, List.set_cons_succ]
      refine held_pure 12 84 (.slice (some ⟨gx, 0, none⟩) (D + 1) cx) rfl (fun W => by rfl) hHeld ?_
      try simp only [Act.put, List.setIfInBounds_toArray, List.set_cons_zero, List.set_cons_succ]
      refine held_pure 13 85 (.int .i64 (k : Int)) rfl (fun W => by rfl) hHeld ?_
      try simp only [Act.put, List.setIfInBounds_toArray, List.set_cons_zero, List.set_cons_succ]
      refine held_pure 14 86 (.pointer (some ⟨gx, k * 9, none⟩)) rfl (fun W => by go_simp) hHeld ?_
      try simp only [Act.put, List.setIfInBounds_toArray, List.set_cons_zero, List.set_cons_succ]
      refine held_pure 15 87 (.pointer (some ⟨gx, k * 9 + 1, none⟩)) rfl (fun W => by go_simp) hHeld ?_
      try simp only [Act.put, List.setIfInBounds_toArray, List.set_cons_zero, List.set_cons_succ]
      refine held_load 16 88 rfl 27 (.tmp 87) rfl gx (k * 9 + 1) rfl (nmR Xo) (fun w' h => range_keep RX.out h gxr) Try.underlying27 name_info hHeld ?_
      try simp only [Act.put, List.setIfInBounds_toArray, List.set_cons_zero, List.set_cons_succ]
      refine held_pure 17 89 (.slice (some ⟨gy, 0, none⟩) (D + 1) cy) rfl (fun W => by rfl) hHeld ?_
      try simp only [Act.put, List.setIfInBounds_toArray, List.set_cons_zero, List.set_cons_succ]
      refine held_pure 18 90 (.int .i64 (k : Int)) rfl (fun W => by rfl) hHeld ?_
      try simp only [Act.put, List.setIfInBounds_toArray, List.set_cons_zero, List.set_cons_succ]
      refine held_pure 19 91 (.pointer (some ⟨gy, k * 9, none⟩)) rfl (fun W => by go_simp) hHeld ?_
      try simp only [Act.put, List.setIfInBounds_toArray, List.set_cons_zero, List.set_cons_succ]
      refine held_pure 20 92 (.pointer (some ⟨gy, k * 9 + 1, none⟩)) rfl (fun W => by go_simp) hHeld ?_
      try simp only [Act.put, List.setIfInBounds_toArray, List.set_cons_zero, List.set_cons_succ]
      refine held_load 21 93 rfl 27 (.tmp 92) rfl gy (k * 9 + 1) rfl (nmR Yo) (fun w' h => range_keep RY.out h gyr) Try.underlying27 name_info hHeld ?_
      try simp only [Act.put, List.setIfInBounds_toArray, List.set_cons_zero, List.set_cons_succ]
      refine held_pure 22 94 (.bool false) rfl (fun W => by go_simp) hHeld ?_
      try simp only [Act.put, List.setIfInBounds_toArray, List.set_cons_zero, List.set_cons_succ]
      refine held_pure 23 95 (.bool false) rfl (fun W => by rfl) hHeld ?_
      try simp only [Act.put, List.setIfInBounds_toArray, List.set_cons_zero, List.set_cons_succ]
      refine wpAnyH_done (by kernel_rfl) ?_ _
      try simp only [Act.put, List.setIfInBounds_toArray, List.set_cons_zero, List.set_cons_succ]
      go_wp2_with fail
      go_roundw
      case rel => exact ⟨k + 1, by omega, by go_num, hBr.trans ((Below.refl _ _).drew)⟩
      case measure => simp [intOf]; omega

theorem walk (w : World) (y a b : BitVec 64) (i n : Int) (vp : Value) (p : List (BitVec 64)) (vq : Value) (q : List (BitVec 64)) (hi : I64 i) (hn : I64 n) (hvp : VN w vp p) (hp : p.length ≤ 17592186044160) (hvq : VN w vq q) (hq : q.length ≤ 17592186044160) :
    Calls Try.prog 9 #[nm y, nm a, nm b, .int .i64 i, .int .i64 n, vp, vq] w fun e w' => e = .returned (.bool true) ∧ Below w.heap.size w w' := by
  by_cases hab : a = b
  · subst hab
    exact walk_eq w y a i n vp vq
  · cases h1 : verifyP y a i n p
    · exact walk_no1 w y a b i n vp vq p hab hi hn hvp hp h1
    · cases h2 : verifyP y b i n q
      · exact walk_no2 w y a b i n vp vq p q hab hi hn hvp hp hvq hq h1 h2
      · exact walk_yes w y a b i n vp vq p q hab hi hn hvp hp hvq hq h1 h2

set_option maxRecDepth 100000 in
/-- The law's step, at every reading. -/
theorem lifted (os : Os) (started : os.Started) (H : Type) (enc : TypeId × Value → H) :
    ReturnsInHanded {} Try.checked os 9 .any (Rows.merkleBindsSpec.pre6 enc Try.prog Try.f9 Rows.merkleBindsRow.domain false) (Rows.merkleBindsSpec.post enc Try.prog Try.f9 false true false false) := by
  refine law_lifted (C := Try.checked) (n := 7) (tb := 4) own started (by kernel_rfl) Try.func9 rfl (by kernel_rfl)
    (of_decide_eq_true (by kernel_rfl)) (by kernel_rfl) (by kernel_rfl) Try.underlying4
    (fun ds hd => by match ds, hd with | [_, _, _, _, _, _, _], _ => rfl)
    (ChangeSpec.witness6 (enc := enc) (C := Try.checked) false ⟨#[], #[.agg #[.int .u8 0, .int .u8 0, .int .u8 0, .int .u8 0, .int .u8 0, .int .u8 0, .int .u8 0, .int .u8 0], .agg #[.int .u8 0, .int .u8 0, .int .u8 0, .int .u8 0, .int .u8 0, .int .u8 0, .int .u8 0, .int .u8 0], .agg #[.int .u8 0, .int .u8 0, .int .u8 0, .int .u8 0, .int .u8 0, .int .u8 0, .int .u8 0, .int .u8 0], .int .i64 0, .int .i64 0, .slice none 0 0, .slice none 0 0], []⟩ 8 (by kernel_rfl) (by kernel_rfl) (by kernel_rfl) (by kernel_rfl)) ?_
  intro W base args ds ps hval hA hlt hsz
  rw [Try.params9] at hA hval
  obtain ⟨v0, vs0, d0, ds0, p0, q0, hargs, rfl, rfl, h0, r0⟩ := trodAll_cons hA
  obtain ⟨v1, vs1, d1, ds1, p1, q1, rfl, rfl, rfl, h1, r1⟩ := trodAll_cons r0
  obtain ⟨v2, vs2, d2, ds2, p2, q2, rfl, rfl, rfl, h2, r2⟩ := trodAll_cons r1
  obtain ⟨v3, vs3, d3, ds3, p3, q3, rfl, rfl, rfl, h3, r3⟩ := trodAll_cons r2
  obtain ⟨v4, vs4, d4, ds4, p4, q4, rfl, rfl, rfl, h4, r4⟩ := trodAll_cons r3
  obtain ⟨v5, vs5, d5, ds5, p5, q5, rfl, rfl, rfl, h5, r5⟩ := trodAll_cons r4
  obtain ⟨v6, vs6, d6, ds6, p6, q6, rfl, rfl, rfl, h6, r6⟩ := trodAll_cons r5
  obtain ⟨rfl, rfl, rfl⟩ := trodAll_nil r6
  obtain rfl : args = #[v0, v1, v2, v3, v4, v5, v6] := by cases args; simp_all
  obtain ⟨x0, rfl, rfl⟩ := open_name Try.underlying27 Try.underlying5 cells1 cells8 (hval 0 _ v0 rfl rfl) h0
  obtain ⟨x1, rfl, rfl⟩ := open_name Try.underlying27 Try.underlying5 cells1 cells8 (hval 1 _ v1 rfl rfl) h1
  obtain ⟨x2, rfl, rfl⟩ := open_name Try.underlying27 Try.underlying5 cells1 cells8 (hval 2 _ v2 rfl rfl) h2
  obtain ⟨x3, rfl, rfl, rfl, wn3⟩ := open_int Try.underlying3 (hval 3 _ v3 rfl rfl) h3
  obtain ⟨x4, rfl, rfl, rfl, wn4⟩ := open_int Try.underlying3 (hval 4 _ v4 rfl rfl) h4
  obtain ⟨A5, l5, c5, rfl, hc5, hm5, hr5⟩ := open_names Try.underlying22 Try.underlying27 Try.underlying5 cells1 cells8 bytes8 (hval 5 _ v5 rfl rfl) h5 (fun x hx => hlt x (by simp [hx])) hsz (j := 5) (by rw [Try.params9]; rfl) rfl
  obtain ⟨A6, l6, c6, rfl, hc6, hm6, hr6⟩ := open_names Try.underlying22 Try.underlying27 Try.underlying5 cells1 cells8 bytes8 (hval 6 _ v6 rfl rfl) h6 (fun x hx => hlt x (by simp [hx])) hsz (j := 6) (by rw [Try.params9]; rfl) rfl
  exact walk W x0 x1 x2 x3 x4 _ l5 _ l6 (bounds_i64 wn3) (bounds_i64 wn4) (VN.mk hr5 hc5 hm5) (by omega) (VN.mk hr6 hc6 hm6) (by omega)

theorem proved : Rows.MerkleBindsSaid :=
  OpenClaim.holds_of_wide 9 Try.f9 rfl rfl rfl rfl rfl rfl rfl ⟨rfl, rfl, rfl, rfl, rfl⟩ rfl rfl rfl rfl rfl (by kernel_rfl) Try.func9 (by kernel_rfl)
    (of_decide_eq_true (by kernel_rfl)) (by unfold Func.isWrapper; first | (rw [if_pos (by decide +kernel)]; kernel_rfl) | (rw [if_neg (by decide +kernel)]; exact ⟨rfl, rfl⟩))
    (fun os started H enc _ => lifted os started H enc)
#print axioms proved
end Go.Proofs.Ytllciohpphngiaa.merkleBinds
