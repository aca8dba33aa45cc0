/-
  The project's committee: Lowest.
-/
import Derived.Shelf.RegionOpen
import Derived.Test.YtonchdillkhjbaaCommB
namespace Go.Proofs.Ytonchdillkhjbaa
open Go.ChangeShapes Go.WideShapes Go.ChangeAt Go.RowKit Go.Fl Go.Shelf

attribute [local go_sem] Oper.semAt_some

set_option maxRecDepth 100000 in
set_option maxHeartbeats 2000000 in
theorem clow_in (n : Nat) (hn : 4 ≤ n) (m k : Int) (hm : I64 m) (hk : I64 k) (w : World) :
    CallsIn Fence.wide n Try.prog 22 #[.int .i64 m, .int .i64 k] w fun e W' => e = .returned (.int .i64 (lowF m k)) ∧ Below w.heap.size w W' := by
  have h1 : 1 ≤ n := by omega
  have HK := Lib.hid hk
  clear hk
  refine callsIn_of_wp_marks Try.func22 rfl trivial ?_ rfl
  simp only [Try.ntmps22, List.size_toArray, List.length_cons, List.length_nil, Nat.reduceAdd, Nat.reduceSub, Array.replicate_succ, Array.replicate_zero, List.push_toArray, List.append_toArray, List.nil_append, List.cons_append]
  gi_wp2_with fail
  refine ⟨trivial, ?_⟩
  refine (cmembers_in (n - 1) m _).mono ?_
  rintro e w2 ⟨rfl, rfl⟩
  gi_wp2_with fail
  have b0 := Boxed.new w 3 (.int .i64 k)
  have b1 := Boxed.new (w.alloc (.cells #[.int .i64 k] 3)) 25 (.int .i64 0)
  have b2 := Boxed.new ((w.alloc (.cells #[.int .i64 k] 3)).alloc (.cells #[.int .i64 0] 25)) 25 (.int .i64 m)
  simp only [World.size_alloc] at b1 b2
  have hB0 : Below w.heap.size w (((w.alloc (.cells #[.int .i64 k] 3)).alloc (.cells #[.int .i64 0] 25)).alloc (.cells #[.int .i64 m] 25)) := (((Below.refl _ w).alloc (Nat.le_refl _) _).alloc (by simp) _).alloc (by simp; omega) _
  refine wpIn_rangeFunc_ownG rfl h1 (gf := 31) (lb := #[.pointer (some ⟨w.heap.size + 1 + 1, 0, none⟩)]) rfl trivial (enters_of Try.func31 (by kernel_rfl) rfl)
    (cmembers_stops10 (n - 1) (by omega) (w.heap.size + 1 + 1) m hm _ (by simp) b2.cell) KpM.t (KpM.b (by simp)) (Below.refl _ _) (fun _ => rfl)
    (fun pre W => pre.length ≤ k.toNat ∧ Boxed W w.heap.size 3 (.int .i64 (k - (pre.length : Int))) ∧ Boxed W (w.heap.size + 1) 25 (.int .i64 (orF (pre.map Fin.val) : Nat)) ∧ Boxed W (w.heap.size + 1 + 1) 25 (.int .i64 m) ∧ Below w.heap.size w W)
    (fun c pre W => (c = .exit 0 ∧ pre ≠ [] ∧ pre.dropLast.length ≤ k.toNat ∧ k ≤ (pre.dropLast.length : Int)) ∧ Boxed W (w.heap.size + 1) 25 (.int .i64 (orF (pre.dropLast.map Fin.val) : Nat)) ∧ Below w.heap.size w W)
    (OwnFrom.and (ownFrom_pure _ (fun pre : List (Fin 10) => pre.length ≤ k.toNat)) (OwnFrom.and (Own.from (boxed_own w.heap.size 3 (fun pre : List (Fin 10) => .int .i64 (k - (pre.length : Int)))) _) (OwnFrom.and (Own.from (boxed_own (w.heap.size + 1) 25 (fun pre : List (Fin 10) => .int .i64 (orF (pre.map Fin.val) : Nat))) _) (OwnFrom.and (Own.from (boxed_own (w.heap.size + 1 + 1) 25 (fun _ : List (Fin 10) => .int .i64 m)) _) (ownFrom_below (Nat.le_refl _) (by simp; omega))))))
    (fun c => OwnFrom.and (ownFrom_pure _ (fun pre : List (Fin 10) => c = .exit 0 ∧ pre ≠ [] ∧ pre.dropLast.length ≤ k.toNat ∧ k ≤ (pre.dropLast.length : Int))) (OwnFrom.and (Own.from (boxed_own (w.heap.size + 1) 25 (fun pre : List (Fin 10) => .int .i64 (orF (pre.dropLast.map Fin.val) : Nat))) _) (ownFrom_below (Nat.le_refl _) (by simp; omega))))
    ⟨by simp, by simpa using (b0.alloc _).alloc _, by simpa [orF] using b1.alloc _, b2, hB0⟩
    (fun x => { tmps := #[.int .i64 m, .int .i64 k, undef, .pointer (some ⟨w.heap.size, 0, none⟩), .int .i64 0, .pointer (some ⟨w.heap.size + 1, 0, none⟩), .int .i64 (x.val : Int), .int .i64 m, .func (.func 31) #[] #[.pointer (some ⟨w.heap.size + 1 + 1, 0, none⟩)], .int .i64 (x.val : Int), undef, undef, undef, undef, undef, undef, undef, undef, undef], defers := [] }) ?assign ?body ?done ?stop
  case assign =>
    intro l x W K hK
    gi_wp2
    exact hK
  case body =>
    rintro l pre ⟨x, hx⟩ W ⟨hle, h0, h1b, h2, hB⟩ hlt
    have hd : 1 ≤ n - 1 - 1 := by omega
    have hmx : Try.prog.follows .mixedOrders = true := by kernel_rfl
    have hk1 := HK.out.1
    have hk2 := HK.out.2
    have hc0 := h0.cell
    have hc1 := h1b.cell
    have hf0 := h0.frozen
    have hf1 := h1b.frozen
    by_cases hsm : k - (pre.length : Int) < 1
    · gi_wp2
      exact ⟨(KeepsOthers.refl _).from _, ⟨rfl, by simp, by simpa using hle, by rw [List.dropLast_concat]; omega⟩, by rw [List.dropLast_concat]; exact h1b, hB⟩
    · have hor : orF (pre.map Fin.val) < 1024 := orF_lt' _ 0 (by decide) (fun i hi => by obtain ⟨f, -, rfl⟩ := List.mem_map.1 hi; exact f.2)
      have hon := or_nat (orF (pre.map Fin.val)) (2 ^ x) hor (pow_lt x hx)
      rw [← orF_snoc, show pre.map Fin.val ++ [x] = (pre ++ [(⟨x, hx⟩ : Fin 10)]).map Fin.val by simp] at hon
      obtain ⟨R, hR⟩ : ∃ R, orF ((pre ++ [(⟨x, hx⟩ : Fin 10)]).map Fin.val) = R := ⟨_, rfl⟩
      rw [hR] at hon
      generalize orF (pre.map Fin.val) = O1 at hon hor h1b hc1
      obtain ⟨N, hN⟩ : ∃ N, pre.length = N := ⟨_, rfl⟩
      rw [hN] at hsm h0 hc0 hle
      have hwr : IntKind.i64.wrap (k - (N : Int) - 1) = k - (N : Int) - 1 := by rw [IntKind.wrap_i64]; omega
      have hlen : (pre ++ [(⟨x, hx⟩ : Fin 10)]).length = N + 1 := by simp [hN]
      have hend : KeepsFrom (((w.alloc (.cells #[.int .i64 k] 3)).alloc (.cells #[.int .i64 0] 25)).alloc (.cells #[.int .i64 m] 25)).heap.size W ((W.setCell ⟨w.heap.size + 1, 0, none⟩ (.int .i64 (R : Int))).setCell ⟨w.heap.size, 0, none⟩ (.int .i64 (k - (N : Int) - 1))).drew ∧
          KpM (w.heap.size + 1 + 1) W ((W.setCell ⟨w.heap.size + 1, 0, none⟩ (.int .i64 (R : Int))).setCell ⟨w.heap.size, 0, none⟩ (.int .i64 (k - (N : Int) - 1))).drew ∧
          (pre ++ [(⟨x, hx⟩ : Fin 10)]).length ≤ k.toNat ∧
          Boxed ((W.setCell ⟨w.heap.size + 1, 0, none⟩ (.int .i64 (R : Int))).setCell ⟨w.heap.size, 0, none⟩ (.int .i64 (k - (N : Int) - 1))).drew w.heap.size 3 (.int .i64 (k - ((pre ++ [(⟨x, hx⟩ : Fin 10)]).length : Int))) ∧
          Boxed ((W.setCell ⟨w.heap.size + 1, 0, none⟩ (.int .i64 (R : Int))).setCell ⟨w.heap.size, 0, none⟩ (.int .i64 (k - (N : Int) - 1))).drew (w.heap.size + 1) 25 (.int .i64 (orF ((pre ++ [(⟨x, hx⟩ : Fin 10)]).map Fin.val) : Nat)) ∧
          Boxed ((W.setCell ⟨w.heap.size + 1, 0, none⟩ (.int .i64 (R : Int))).setCell ⟨w.heap.size, 0, none⟩ (.int .i64 (k - (N : Int) - 1))).drew (w.heap.size + 1 + 1) 25 (.int .i64 m) ∧
          Below w.heap.size w ((W.setCell ⟨w.heap.size + 1, 0, none⟩ (.int .i64 (R : Int))).setCell ⟨w.heap.size, 0, none⟩ (.int .i64 (k - (N : Int) - 1))).drew := by
        have c2 := ((h2.other (B' := w.heap.size + 1) (by omega) (.int .i64 (R : Int))).other (B' := w.heap.size) (by omega) (.int .i64 (k - (N : Int) - 1)))
        refine ⟨(((KeepsOthers.setCell _ _ _).trans (KeepsOthers.setCell _ _ _)).trans (KeepsOthers.drew _)).from _, c2.cell.trans h2.cell.symm, by rw [hlen]; omega, ?_, ?_, c2, ((hB.setCell (p := ⟨w.heap.size + 1, 0, none⟩) (Nat.le_succ _) _).setCell (p := ⟨w.heap.size, 0, none⟩) (Nat.le_refl _) _).drew⟩
        · rw [hlen, show k - ((N + 1 : Nat) : Int) = k - (N : Int) - 1 by omega]
          exact (h0.other (B' := w.heap.size + 1) (by omega) _).set _
        · rw [hR]
          exact (h1b.set _).other (B' := w.heap.size) (by omega) _
      have HE := Lib.hid hend
      clear hend h0 h1b h2 hB hlen hR hN hle
      clear hlt
      have hxs : x = 0 ∨ x = 1 ∨ x = 2 ∨ x = 3 ∨ x = 4 ∨ x = 5 ∨ x = 6 ∨ x = 7 ∨ x = 8 ∨ x = 9 := by omega
      rcases hxs with rfl | rfl | rfl | rfl | rfl | rfl | rfl | rfl | rfl | rfl
      · have ho2 : bits .or .i64 (O1 : Int) 1 = (R : Int) := hon
        clear hon hor
        gi_wp2
        gi_region_with_o fail
        all_goals gi_wp2
        all_goals exact HE.out
      · have ho2 : bits .or .i64 (O1 : Int) 2 = (R : Int) := hon
        clear hon hor
        gi_wp2
        gi_region_with_o fail
        all_goals gi_wp2
        all_goals exact HE.out
      · have ho2 : bits .or .i64 (O1 : Int) 4 = (R : Int) := hon
        clear hon hor
        gi_wp2
        gi_region_with_o fail
        all_goals gi_wp2
        all_goals exact HE.out
      · have ho2 : bits .or .i64 (O1 : Int) 8 = (R : Int) := hon
        clear hon hor
        gi_wp2
        gi_region_with_o fail
        all_goals gi_wp2
        all_goals exact HE.out
      · have ho2 : bits .or .i64 (O1 : Int) 16 = (R : Int) := hon
        clear hon hor
        gi_wp2
        gi_region_with_o fail
        all_goals gi_wp2
        all_goals exact HE.out
      · have ho2 : bits .or .i64 (O1 : Int) 32 = (R : Int) := hon
        clear hon hor
        gi_wp2
        gi_region_with_o fail
        all_goals gi_wp2
        all_goals exact HE.out
      · have ho2 : bits .or .i64 (O1 : Int) 64 = (R : Int) := hon
        clear hon hor
        gi_wp2
        gi_region_with_o fail
        all_goals gi_wp2
        all_goals exact HE.out
      · have ho2 : bits .or .i64 (O1 : Int) 128 = (R : Int) := hon
        clear hon hor
        gi_wp2
        gi_region_with_o fail
        all_goals gi_wp2
        all_goals exact HE.out
      · have ho2 : bits .or .i64 (O1 : Int) 256 = (R : Int) := hon
        clear hon hor
        gi_wp2
        gi_region_with_o fail
        all_goals gi_wp2
        all_goals exact HE.out
      · have ho2 : bits .or .i64 (O1 : Int) 512 = (R : Int) := hon
        clear hon hor
        gi_wp2
        gi_region_with_o fail
        all_goals gi_wp2
        all_goals exact HE.out
  case done =>
    rintro D ys W hD hys ⟨hle, h0, h1b, h2, hB⟩ hK
    have hlow : lowF m k = (orF (ys.map Fin.val) : Nat) := by
      unfold lowF
      rw [← hys, List.take_of_length_le (by simpa using hle)]
    obtain ⟨R, hR⟩ : ∃ R, orF (ys.map Fin.val) = R := ⟨_, rfl⟩
    rw [hR] at h1b hlow
    have hc1 := h1b.cell
    clear hys hR
    gi_wp2
    refine ⟨by simp, .inl ⟨_, _, rfl, run_takeDeferred hK, ?_⟩⟩
    exact ⟨_, results_tmp rfl _ _ _, by rw [hlow]; rfl, hB.trans (belowK_b (w := w) (Nat.le_refl _) W D _ _ (by simp at hD; omega) hK rfl rfl)⟩
  case stop =>
    rintro D c pre W hD hpre ⟨⟨rfl, hne, hle, hge⟩, h1b, hB⟩ hK
    have hlow : lowF m k = (orF (pre.dropLast.map Fin.val) : Nat) := by
      unfold lowF
      have hlk : k.toNat = pre.dropLast.length := by omega
      have hp : pre.dropLast.map Fin.val <+: idsF m := (List.IsPrefix.map Fin.val (List.dropLast_prefix pre)).trans hpre
      rw [hlk, List.prefix_iff_eq_take.1 hp, List.length_map]
    obtain ⟨R, hR⟩ : ∃ R, orF (pre.dropLast.map Fin.val) = R := ⟨_, rfl⟩
    rw [hR] at h1b hlow
    have hc1 := h1b.cell
    clear hpre hR
    gi_wp2
    refine ⟨by simp, .inl ⟨_, _, rfl, run_takeDeferred hK, ?_⟩⟩
    exact ⟨_, results_tmp rfl _ _ _, by rw [hlow]; rfl, hB.trans (belowK_b (w := w) (Nat.le_refl _) W D _ _ (by simp at hD; omega) hK rfl rfl)⟩
end Go.Proofs.Ytonchdillkhjbaa
