/-
  The project's committee: Select; what package committee promises.
-/
import Derived.Test.YtonchdillkhjbaaCommC
import Derived.Test.YtonchdillkhjbaaCommE
namespace Go.Fl
open Go.ChangeShapes Go.WideShapes Go.ChangeAt Go.RowKit
theorem sel_low (v s g : Int) (c : Nat) (_hc : c ≤ 10) (h : ∀ i : Nat, i < 10 → ((i : Int) < v ↔ i < c)) : lowF (bits .andNot .i64 ((2 ^ c - 1 : Nat) : Int) g) s = selF v s g := by
  unfold lowF selF
  have e : idsF (bits .andNot .i64 ((2 ^ c - 1 : Nat) : Int) g) = freeF v g := by
    unfold idsF freeF
    apply List.filter_congr
    intro i hi
    have hi := List.mem_range.1 hi
    rw [bitM_andNot _ _ _ (by omega), bitM_nat _ _ (by omega), Nat.testBit_two_pow_sub_one]
    have := h i hi
    by_cases e : i < c
    · rw [decide_eq_true e, decide_eq_true (this.2 e)]
    · rw [decide_eq_false e, decide_eq_false (fun x => e (this.1 x))]
  rw [e]
end Go.Fl
namespace Go.Proofs.Ytonchdillkhjbaa
open Go.ChangeShapes Go.WideShapes Go.ChangeAt Go.RowKit Go.Fl

theorem clow_any (m k : Int) (hm : I64 m) (hk : I64 k) (w : World) : Calls Try.prog 22 #[.int .i64 m, .int .i64 k] w fun e w' => e = .returned (.int .i64 (lowF m k)) ∧ Below w.heap.size w w' :=
  (callsIn_wide (n := 4)).1 (clow_in 4 (Nat.le_refl _) m k hm hk w)

set_option maxRecDepth 10000 in
set_option maxHeartbeats 1000000 in
theorem csel_any (v s g : Int) (hv : I64 v) (hs : I64 s) (hg : I64 g) (w : World) : Calls Try.prog 24 #[.int .i64 v, .int .i64 s, .int .i64 g] w fun e w' => e = .returned (.int .i64 (selF v s g)) ∧ Below w.heap.size w w' := by
  have HG := Lib.hid hg
  have HS := Lib.hid hs
  obtain ⟨hv1, hv2⟩ := hv
  clear hg hs
  have hcs : v < 0 ∨ 10 < v ∨ v = 0 ∨ v = 1 ∨ v = 2 ∨ v = 3 ∨ v = 4 ∨ v = 5 ∨ v = 6 ∨ v = 7 ∨ v = 8 ∨ v = 9 ∨ v = 10 := by omega
  rcases hcs with hcs | hcs | hcs | hcs | hcs | hcs | hcs | hcs | hcs | hcs | hcs | hcs | hcs
  · have e1 : max v 0 = 0 := by omega
    have e2 : min (0 : Int) 10 = 0 := by omega
    have hx := sel_low v s g 0 (by omega) (fun i hi => by omega)
    have hb := clow_any (bits .andNot .i64 0 g) s (I64_bits _ _ _) HS.out
    obtain ⟨R, hR⟩ : ∃ R, bits .andNot .i64 0 g = R := ⟨_, rfl⟩
    obtain ⟨L, hL⟩ : ∃ L, selF v s g = L := ⟨_, rfl⟩
    have hx2 : lowF R s = L := by rw [← hR, ← hL]; exact hx
    rw [hR] at hb
    rw [hL]
    clear hx hL
    go_enter Try.func24, Try.ntmps24
    go_wp2_with fail
    refine (hb _).mono ?_
    rintro e w1 ⟨rfl, hb1⟩
    rw [hx2]
    go_wp2
    go_ret
    exact ⟨rfl, hb1⟩
  · have e1 : max v 0 = v := by omega
    have e2 : wrap64 1024 = 1024 := by simp [wrap64]
    have e3 : wrap64 1023 = 1023 := by simp [wrap64]
    have hx := sel_low v s g 10 (by omega) (fun i hi => by omega)
    have hb := clow_any (bits .andNot .i64 1023 g) s (I64_bits _ _ _) HS.out
    obtain ⟨R, hR⟩ : ∃ R, bits .andNot .i64 1023 g = R := ⟨_, rfl⟩
    obtain ⟨L, hL⟩ : ∃ L, selF v s g = L := ⟨_, rfl⟩
    have hx2 : lowF R s = L := by rw [← hR, ← hL]; exact hx
    rw [hR] at hb
    rw [hL]
    clear hx hL
    go_enter Try.func24, Try.ntmps24
    go_wp2_with fail
    refine (hb _).mono ?_
    rintro e w1 ⟨rfl, hb1⟩
    rw [hx2]
    go_wp2
    go_ret
    exact ⟨rfl, hb1⟩
  · have e1 : max (0 : Int) 0 = 0 := by omega
    have e2 : min (0 : Int) 10 = 0 := by omega
    have hx := sel_low v s g 0 (by omega) (fun i hi => by omega)
    have hb := clow_any (bits .andNot .i64 0 g) s (I64_bits _ _ _) HS.out
    obtain ⟨R, hR⟩ : ∃ R, bits .andNot .i64 0 g = R := ⟨_, rfl⟩
    obtain ⟨L, hL⟩ : ∃ L, selF v s g = L := ⟨_, rfl⟩
    have hx2 : lowF R s = L := by rw [← hR, ← hL]; exact hx
    rw [hR] at hb
    rw [hL]
    clear hx hL
    subst hcs
    go_enter Try.func24, Try.ntmps24
    go_wp2_with fail
    refine (hb _).mono ?_
    rintro e w1 ⟨rfl, hb1⟩
    rw [hx2]
    go_wp2
    go_ret
    exact ⟨rfl, hb1⟩
  · have e1 : max (1 : Int) 0 = 1 := by omega
    have e2 : min (1 : Int) 10 = 1 := by omega
    have hx := sel_low v s g 1 (by omega) (fun i hi => by omega)
    have hb := clow_any (bits .andNot .i64 1 g) s (I64_bits _ _ _) HS.out
    obtain ⟨R, hR⟩ : ∃ R, bits .andNot .i64 1 g = R := ⟨_, rfl⟩
    obtain ⟨L, hL⟩ : ∃ L, selF v s g = L := ⟨_, rfl⟩
    have hx2 : lowF R s = L := by rw [← hR, ← hL]; exact hx
    rw [hR] at hb
    rw [hL]
    clear hx hL
    subst hcs
    go_enter Try.func24, Try.ntmps24
    go_wp2_with fail
    refine (hb _).mono ?_
    rintro e w1 ⟨rfl, hb1⟩
    rw [hx2]
    go_wp2
    go_ret
    exact ⟨rfl, hb1⟩
  · have e1 : max (2 : Int) 0 = 2 := by omega
    have e2 : min (2 : Int) 10 = 2 := by omega
    have hx := sel_low v s g 2 (by omega) (fun i hi => by omega)
    have hb := clow_any (bits .andNot .i64 3 g) s (I64_bits _ _ _) HS.out
    obtain ⟨R, hR⟩ : ∃ R, bits .andNot .i64 3 g = R := ⟨_, rfl⟩
    obtain ⟨L, hL⟩ : ∃ L, selF v s g = L := ⟨_, rfl⟩
    have hx2 : lowF R s = L := by rw [← hR, ← hL]; exact hx
    rw [hR] at hb
    rw [hL]
    clear hx hL
    subst hcs
    go_enter Try.func24, Try.ntmps24
    go_wp2_with fail
    refine (hb _).mono ?_
    rintro e w1 ⟨rfl, hb1⟩
    rw [hx2]
    go_wp2
    go_ret
    exact ⟨rfl, hb1⟩
  · have e1 : max (3 : Int) 0 = 3 := by omega
    have e2 : min (3 : Int) 10 = 3 := by omega
    have hx := sel_low v s g 3 (by omega) (fun i hi => by omega)
    have hb := clow_any (bits .andNot .i64 7 g) s (I64_bits _ _ _) HS.out
    obtain ⟨R, hR⟩ : ∃ R, bits .andNot .i64 7 g = R := ⟨_, rfl⟩
    obtain ⟨L, hL⟩ : ∃ L, selF v s g = L := ⟨_, rfl⟩
    have hx2 : lowF R s = L := by rw [← hR, ← hL]; exact hx
    rw [hR] at hb
    rw [hL]
    clear hx hL
    subst hcs
    go_enter Try.func24, Try.ntmps24
    go_wp2_with fail
    refine (hb _).mono ?_
    rintro e w1 ⟨rfl, hb1⟩
    rw [hx2]
    go_wp2
    go_ret
    exact ⟨rfl, hb1⟩
  · have e1 : max (4 : Int) 0 = 4 := by omega
    have e2 : min (4 : Int) 10 = 4 := by omega
    have hx := sel_low v s g 4 (by omega) (fun i hi => by omega)
    have hb := clow_any (bits .andNot .i64 15 g) s (I64_bits _ _ _) HS.out
    obtain ⟨R, hR⟩ : ∃ R, bits .andNot .i64 15 g = R := ⟨_, rfl⟩
    obtain ⟨L, hL⟩ : ∃ L, selF v s g = L := ⟨_, rfl⟩
    have hx2 : lowF R s = L := by rw [← hR, ← hL]; exact hx
    rw [hR] at hb
    rw [hL]
    clear hx hL
    subst hcs
    go_enter Try.func24, Try.ntmps24
    go_wp2_with fail
    refine (hb _).mono ?_
    rintro e w1 ⟨rfl, hb1⟩
    rw [hx2]
    go_wp2
    go_ret
    exact ⟨rfl, hb1⟩
  · have e1 : max (5 : Int) 0 = 5 := by omega
    have e2 : min (5 : Int) 10 = 5 := by omega
    have hx := sel_low v s g 5 (by omega) (fun i hi => by omega)
    have hb := clow_any (bits .andNot .i64 31 g) s (I64_bits _ _ _) HS.out
    obtain ⟨R, hR⟩ : ∃ R, bits .andNot .i64 31 g = R := ⟨_, rfl⟩
    obtain ⟨L, hL⟩ : ∃ L, selF v s g = L := ⟨_, rfl⟩
    have hx2 : lowF R s = L := by rw [← hR, ← hL]; exact hx
    rw [hR] at hb
    rw [hL]
    clear hx hL
    subst hcs
    go_enter Try.func24, Try.ntmps24
    go_wp2_with fail
    refine (hb _).mono ?_
    rintro e w1 ⟨rfl, hb1⟩
    rw [hx2]
    go_wp2
    go_ret
    exact ⟨rfl, hb1⟩
  · have e1 : max (6 : Int) 0 = 6 := by omega
    have e2 : min (6 : Int) 10 = 6 := by omega
    have hx := sel_low v s g 6 (by omega) (fun i hi => by omega)
    have hb := clow_any (bits .andNot .i64 63 g) s (I64_bits _ _ _) HS.out
    obtain ⟨R, hR⟩ : ∃ R, bits .andNot .i64 63 g = R := ⟨_, rfl⟩
    obtain ⟨L, hL⟩ : ∃ L, selF v s g = L := ⟨_, rfl⟩
    have hx2 : lowF R s = L := by rw [← hR, ← hL]; exact hx
    rw [hR] at hb
    rw [hL]
    clear hx hL
    subst hcs
    go_enter Try.func24, Try.ntmps24
    go_wp2_with fail
    refine (hb _).mono ?_
    rintro e w1 ⟨rfl, hb1⟩
    rw [hx2]
    go_wp2
    go_ret
    exact ⟨rfl, hb1⟩
  · have e1 : max (7 : Int) 0 = 7 := by omega
    have e2 : min (7 : Int) 10 = 7 := by omega
    have hx := sel_low v s g 7 (by omega) (fun i hi => by omega)
    have hb := clow_any (bits .andNot .i64 127 g) s (I64_bits _ _ _) HS.out
    obtain ⟨R, hR⟩ : ∃ R, bits .andNot .i64 127 g = R := ⟨_, rfl⟩
    obtain ⟨L, hL⟩ : ∃ L, selF v s g = L := ⟨_, rfl⟩
    have hx2 : lowF R s = L := by rw [← hR, ← hL]; exact hx
    rw [hR] at hb
    rw [hL]
    clear hx hL
    subst hcs
    go_enter Try.func24, Try.ntmps24
    go_wp2_with fail
    refine (hb _).mono ?_
    rintro e w1 ⟨rfl, hb1⟩
    rw [hx2]
    go_wp2
    go_ret
    exact ⟨rfl, hb1⟩
  · have e1 : max (8 : Int) 0 = 8 := by omega
    have e2 : min (8 : Int) 10 = 8 := by omega
    have hx := sel_low v s g 8 (by omega) (fun i hi => by omega)
    have hb := clow_any (bits .andNot .i64 255 g) s (I64_bits _ _ _) HS.out
    obtain ⟨R, hR⟩ : ∃ R, bits .andNot .i64 255 g = R := ⟨_, rfl⟩
    obtain ⟨L, hL⟩ : ∃ L, selF v s g = L := ⟨_, rfl⟩
    have hx2 : lowF R s = L := by rw [← hR, ← hL]; exact hx
    rw [hR] at hb
    rw [hL]
    clear hx hL
    subst hcs
    go_enter Try.func24, Try.ntmps24
    go_wp2_with fail
    refine (hb _).mono ?_
    rintro e w1 ⟨rfl, hb1⟩
    rw [hx2]
    go_wp2
    go_ret
    exact ⟨rfl, hb1⟩
  · have e1 : max (9 : Int) 0 = 9 := by omega
    have e2 : min (9 : Int) 10 = 9 := by omega
    have hx := sel_low v s g 9 (by omega) (fun i hi => by omega)
    have hb := clow_any (bits .andNot .i64 511 g) s (I64_bits _ _ _) HS.out
    obtain ⟨R, hR⟩ : ∃ R, bits .andNot .i64 511 g = R := ⟨_, rfl⟩
    obtain ⟨L, hL⟩ : ∃ L, selF v s g = L := ⟨_, rfl⟩
    have hx2 : lowF R s = L := by rw [← hR, ← hL]; exact hx
    rw [hR] at hb
    rw [hL]
    clear hx hL
    subst hcs
    go_enter Try.func24, Try.ntmps24
    go_wp2_with fail
    refine (hb _).mono ?_
    rintro e w1 ⟨rfl, hb1⟩
    rw [hx2]
    go_wp2
    go_ret
    exact ⟨rfl, hb1⟩
  · have e1 : max (10 : Int) 0 = 10 := by omega
    have e2 : min (10 : Int) 10 = 10 := by omega
    have hx := sel_low v s g 10 (by omega) (fun i hi => by omega)
    have hb := clow_any (bits .andNot .i64 1023 g) s (I64_bits _ _ _) HS.out
    obtain ⟨R, hR⟩ : ∃ R, bits .andNot .i64 1023 g = R := ⟨_, rfl⟩
    obtain ⟨L, hL⟩ : ∃ L, selF v s g = L := ⟨_, rfl⟩
    have hx2 : lowF R s = L := by rw [← hR, ← hL]; exact hx
    rw [hR] at hb
    rw [hL]
    clear hx hL
    subst hcs
    go_enter Try.func24, Try.ntmps24
    go_wp2_with fail
    refine (hb _).mono ?_
    rintro e w1 ⟨rfl, hb1⟩
    rw [hx2]
    go_wp2
    go_ret
    exact ⟨rfl, hb1⟩

/-- The project keeps chapter 6. -/
theorem comC : CommS Try.prog 3 10 12 15 17 20 22 24 where
  quorum := fun w n hn => cquorum_any n hn w
  third := fun w n hn => cthird_any n hn w
  has := fun w m i hm hi => (chas_any m i hm hi w).mono fun _ _ h => ⟨h.1, h.2 ▸ Below.refl _ _⟩
  size := fun w m _ => (csize_any m w).mono fun _ _ h => ⟨h.1, h.2 ▸ Below.refl _ _⟩
  ids := fun w m hm => (callsIn_wide (n := 4)).1 (cids_in 4 (Nat.le_refl _) m hm w)
  low := fun w m k hm hk => clow_any m k hm hk w
  sel := fun w v s g hv hs hg => csel_any v s g hv hs hg w
end Go.Proofs.Ytonchdillkhjbaa
