/-
  The project's committee: IDs.
-/
import Derived.Shelf.RegionOpen
import Derived.Test.YtonchdillkhjbaaCommB
namespace Go.Proofs.Ytonchdillkhjbaa
open Go.ChangeShapes Go.WideShapes Go.ChangeAt Go.RowKit Go.Fl Go.Shelf

attribute [local go_sem] Oper.semAt_some

set_option maxRecDepth 100000 in
set_option maxHeartbeats 2000000 in
theorem cids_in (n : Nat) (hn : 4 ≤ n) (m : Int) (hm : I64 m) (w : World) :
    CallsIn Fence.wide n Try.prog 20 #[.int .i64 m] w fun e W' => ∃ v, e = .returned v ∧ OI W' w.heap.size 3 v (idsF m) ∧ Below w.heap.size w W' := by
  have h1 : 1 ≤ n := by omega
  have hlen10 := idsF_len m
  obtain ⟨i0, hi, hz0, hz1, hz2⟩ := info_parts info_i64
  refine callsIn_of_wp_marks Try.func20 rfl trivial ?_ rfl
  simp only [Try.ntmps20, List.size_toArray, List.length_cons, List.length_nil, Nat.reduceAdd, Nat.reduceSub, Array.replicate_succ, Array.replicate_zero, List.push_toArray, List.append_toArray, List.nil_append, List.cons_append]
  gi_wp2_with fail
  refine ⟨trivial, ?_⟩
  refine (callsIn_wide.2 (csize_any m _)).mono ?_
  rintro e w' ⟨rfl, rfl⟩
  gi_wp2_with (gi_at_make; refine wpListIn_make_own _ rfl _ _ 29 rfl w'.heap.size 3 i0 (.int .i64 0) 1 Try.underlying29 hi hz0 hz1 .i64 .i64 _ (idsF m).length rfl rfl rfl (by rw [hz2]; omega) (by simp only [maxLen]; omega) (Nat.le_refl _) ?_; intro w1 hown1 hgrow1)
  refine ⟨trivial, ?_⟩
  refine (cmembers_in (n - 1) m _).mono ?_
  rintro e w2 ⟨rfl, rfl⟩
  gi_wp2_with fail
  have bO := Boxed.new w1 29 (.slice (some ⟨w'.heap.size, 0, none⟩) 0 (idsF m).length)
  have bN := Boxed.new (w1.alloc (.cells #[.slice (some ⟨w'.heap.size, 0, none⟩) 0 (idsF m).length] 29)) 25 (.int .i64 m)
  rw [World.size_alloc] at bN
  have hs1 : w'.heap.size ≤ w1.heap.size := hgrow1.size
  have hBw1 : Below w'.heap.size w' w1 := (Below.refl _ w').grown hgrow1 (Nat.le_refl _) (fun j hj => by cases hj)
  have hB0 : Below w'.heap.size w' ((w1.alloc (.cells #[.slice (some ⟨w'.heap.size, 0, none⟩) 0 (idsF m).length] 29)).alloc (.cells #[.int .i64 m] 25)) := (hBw1.alloc hs1 _).alloc (by simp; omega) _
  refine wpIn_rangeFunc_ownG rfl h1 (gf := 31) (lb := #[.pointer (some ⟨w1.heap.size + 1, 0, none⟩)]) rfl trivial (enters_of Try.func31 (by kernel_rfl) rfl)
    (cmembers_stops (n - 1) (by omega) (w1.heap.size + 1) m hm _ (by simp) bN.cell) KpM.t (KpM.b (by simp)) (Below.refl _ _) (fun _ => rfl)
    (fun pre W => (∃ v, Boxed W w1.heap.size 29 v ∧ W.ownsRow w'.heap.size 3 1 v pre.length (iC pre) ∧ True) ∧ Boxed W (w1.heap.size + 1) 25 (.int .i64 m) ∧ Below w'.heap.size w' W)
    (fun _ _ _ => False)
    (OwnFrom.and (Own.from (holdsRow_own w'.heap.size w1.heap.size 29 3 1 (fun pre : List Nat => pre.length) (fun pre => iC pre) (fun _ _ => True)) _) (OwnFrom.and (Own.from (boxed_own (w1.heap.size + 1) 25 (fun _ : List Nat => .int .i64 m)) _) (ownFrom_below (Nat.le_refl _) (by simp; omega))))
    (fun _ _ _ _ _ hs _ _ => hs)
    ⟨⟨_, bO.alloc _, by simpa [iC] using (hown1.alloc _).alloc _, trivial⟩, bN, hB0⟩
    (fun x => { tmps := #[.int .i64 m, undef, .slice none 0 0, .pointer (some ⟨w1.heap.size, 0, none⟩), .int .i64 (x : Int), .int .i64 m, .int .i64 ((idsF m).length : Int), .slice (some ⟨w'.heap.size, 0, none⟩) 0 (idsF m).length, .int .i64 m, .func (.func 31) #[] #[.pointer (some ⟨w1.heap.size + 1, 0, none⟩)], .int .i64 (x : Int), undef, undef, undef, undef, undef], defers := [] }) ?assign ?body ?done ?stop
  case assign =>
    intro l x W K hK
    gi_wp2
    exact hK
  case body =>
    rintro l pre x W ⟨⟨v, hv, hrow, -⟩, hbm, hB⟩ hlt
    have hc := hv.cell
    have hp10 : pre.length < 10 := by omega
    gi_wp2_with (gi_at_builtin; refine wpListIn_append_own _ rfl _ _ 29 rfl w'.heap.size 3 i0 (.int .i64 0) 1 8 Try.underlying29 hi hz0 hz1 hz2 rfl (by decide) _ _ _ rfl (hrow.alloc _) ⟨W.heap.size, 0, none⟩ 1 1 [.int .i64 (x : Int)] rfl rfl (cell_one_new _ _ _) (by simp [Value.oneCell']) (by simp only [maxLen]; omega) (by omega) (by have := hB.size; simp; omega) ?_; intro v' w1' hown' hgrow _; obtain ⟨g', cap', rfl⟩ := ownsRow_succ hown'; obtain ⟨hv1, hv2, hr2, hk2, hb2⟩ := hv.appended (by decide) hrow hB.size hs1 hown' hgrow; have hc1 := hv1.cell; have hf1 := hv1.frozen; have hbm2 := Boxed.other (B' := w1.heap.size) ((hbm.alloc _).kept hgrow (hbm.not_row (by decide) hrow)) (by omega) (.slice (some ⟨g', 0, none⟩) (pre.length + 1) cap'))
    exact ⟨hk2.from _, hbm2.cell.trans hbm.cell.symm, ⟨_, hv2, by simpa [iC] using hr2, trivial⟩, hbm2, hB.trans hb2⟩
  case done =>
    rintro D ys W hD rfl ⟨⟨v, hv, hrow, -⟩, -, hB⟩ hK
    have hc := hv.cell
    gi_wp2
    refine ⟨by simp, .inl ⟨_, _, rfl, run_takeDeferred hK, ?_⟩⟩
    exact ⟨_, results_tmp rfl _ _ _, v, rfl, ownsRow_putObj hrow _ hK rfl, hB.trans (belowK_b (w := w') (Nat.le_refl _) W D _ _ (by simp at hD; omega) hK rfl rfl)⟩
  case stop =>
    rintro D c pre W _ _ h _
    exact h.elim
end Go.Proofs.Ytonchdillkhjbaa
