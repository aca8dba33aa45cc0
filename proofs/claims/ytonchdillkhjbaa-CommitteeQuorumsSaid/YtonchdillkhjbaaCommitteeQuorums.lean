/-
  The statement CommitteeQuorums, proved for all numbers, with no condition: honest members alone are a quorum if fewer than a third lie.
-/
import Derived.Test.YtonchdillkhjbaaLaw6A
import Derived.Test.YtonchdillkhjbaaComm2
import Derived.Test.YtonchdillkhjbaaSkip
namespace Go.Proofs.Ytonchdillkhjbaa.committeeQuorums
open Go.ChangeShapes Go.WideShapes Go.ChangeAt Go.RowKit Go.Fl

set_option maxRecDepth 10000 in
set_option maxHeartbeats 1000000 in
theorem walk (w : World) (n0 l0 : Int) (hn : I64 n0) (hl : I64 l0) :
    Calls Try.prog 7 #[.int .i64 n0, .int .i64 l0] w fun e w' => e = .returned (.bool true) ∧ Below w.heap.size w w' := by
  obtain ⟨hn1, hn2⟩ := hn
  obtain ⟨hl1, hl2⟩ := hl
  obtain ⟨P, hP⟩ : ∃ n : Nat, IntKind.u64.wrap n0 = (n : Int) := ⟨(IntKind.u64.wrap n0).toNat, by rw [IntKind.wrap_u64]; omega⟩
  obtain ⟨R, hR⟩ : ∃ n : Nat, IntKind.u64.wrap l0 = (n : Int) := ⟨(IntKind.u64.wrap l0).toNat, by rw [IntKind.wrap_u64]; omega⟩
  obtain ⟨p, hp⟩ : ∃ n : Nat, P % 1000000 = n := ⟨_, rfl⟩
  have hp1 : (P : Int) % 1000000 = (p : Int) := by omega
  have hp2 : Int.tmod (P : Int) 1000000 = (p : Int) := by rw [Int.tmod_eq_emod_of_nonneg (by omega)]; exact hp1
  have hp3 : IntKind.i64.wrap (p : Int) = (p : Int) := by rw [IntKind.wrap_i64]; omega
  have hp4 : IntKind.u64.wrap (p : Int) = (p : Int) := by rw [IntKind.wrap_u64]; omega
  obtain ⟨M, hM⟩ : ∃ m : Nat, p + 1 = m := ⟨_, rfl⟩
  have hM1 : (1 : Int) + (p : Int) = (M : Int) := by omega
  have hM2 : IntKind.i64.wrap (M : Int) = (M : Int) := by rw [IntKind.wrap_i64]; omega
  have hM3 : IntKind.u64.wrap (M : Int) = (M : Int) := by rw [IntKind.wrap_u64]; omega
  have hMp : 0 < M := by omega
  obtain ⟨L, hL⟩ : ∃ n : Nat, R % M = n := ⟨_, rfl⟩
  have hLM : L < M := by rw [← hL]; exact Nat.mod_lt _ hMp
  have hL1 : (R : Int) % (M : Int) = (L : Int) := by rw [← hL]; exact (Int.natCast_emod R M).symm
  have hL2 : Int.tmod (R : Int) (M : Int) = (L : Int) := by rw [Int.tmod_eq_emod_of_nonneg (by omega)]; exact hL1
  have hM6 : M ≤ 1000000 := by omega
  have hL3 : IntKind.i64.wrap (L : Int) = (L : Int) := by rw [IntKind.wrap_i64]; omega
  have hL4 : IntKind.u64.wrap (L : Int) = (L : Int) := by rw [IntKind.wrap_u64]; omega
  have hL5 : IntKind.i64.wrap ((3 : Int) * (L : Int)) = 3 * (L : Int) := by rw [IntKind.wrap_i64]; omega
  have hM0 : ((M : Int) == 0) = false := by rw [beq_eq_false_iff_ne]; omega
  have hM00 : (M : Int) ≠ 0 := by omega
  clear hL hp
  by_cases hbig : (M : Int) ≤ 3 * (L : Int)
  · go_enter Try.func7, Try.ntmps7
    go_wp2_with fail
    refine (awake_any _).mono ?_
    rintro e w1 ⟨rfl, hb1⟩
    have hB1 := hb1
    go_wp2_with fail
    go_ret
    exact ⟨rfl, hB1⟩
  · obtain ⟨q, hq⟩ : ∃ q, quorumF (M : Int) = q := ⟨_, rfl⟩
    obtain ⟨t, ht⟩ : ∃ t, thirdF (M : Int) = t := ⟨_, rfl⟩
    have hq1 : q = (M : Int) - ((M : Int) - 1) / 3 := by rw [← hq]; unfold quorumF; rw [if_neg (by omega)]
    have ht1 : t = ((M : Int) + 2) / 3 := by rw [← ht]; unfold thirdF; rw [if_neg (by omega)]
    have hbig2 : 3 * (L : Int) < (M : Int) := by omega
    have c1 : q ≤ (M : Int) - (L : Int) := by omega
    have c2 : ((M : Int) - (L : Int)) / 2 < q - (L : Int) := by omega
    have c3 : (L : Int) < t := by omega
    have d1 : IntKind.i64.wrap ((M : Int) - (L : Int)) = (M : Int) - (L : Int) := by rw [IntKind.wrap_i64]; omega
    have d2 : IntKind.i64.wrap (q - (L : Int)) = q - (L : Int) := by rw [IntKind.wrap_i64]; omega
    have d3 : Int.tdiv ((M : Int) - (L : Int)) 2 = ((M : Int) - (L : Int)) / 2 := by rw [Int.tdiv_eq_ediv_of_nonneg (by omega)]
    have d4 : IntKind.i64.wrap (((M : Int) - (L : Int)) / 2) = ((M : Int) - (L : Int)) / 2 := by rw [IntKind.wrap_i64]; omega
    clear hq1 ht1 hbig
    go_enter Try.func7, Try.ntmps7
    go_wp2_with fail
    refine (comC.quorum _ (M : Int) ⟨by omega, by omega⟩).mono ?_
    rintro e w1 ⟨rfl, hb1⟩
    rw [hq]
    have hB1 := hb1
    go_wp2_with fail
    refine (comC.third _ (M : Int) ⟨by omega, by omega⟩).mono ?_
    rintro e w2 ⟨rfl, hb2⟩
    rw [ht]
    have hB2 := hB1.trans (hb2.mono hB1.size)
    go_wp2_with fail
    refine (awake_any _).mono ?_
    rintro e w3 ⟨rfl, hb3⟩
    have hB3 := hB2.trans (hb3.mono hB2.size)
    go_wp2_with fail
    go_ret
    exact ⟨rfl, hB3⟩

set_option maxRecDepth 100000 in
/-- The law's step, at every reading. -/
theorem lifted (os : Os) (started : os.Started) (H : Type) (enc : TypeId × Value → H) :
    ReturnsInHanded {} Try.checked os 7 .any (Rows.committeeQuorumsSpec.pre6 enc Try.prog Try.f7 Rows.committeeQuorumsRow.domain false) (Rows.committeeQuorumsSpec.post enc Try.prog Try.f7 false true false false) := by
  refine law_lifted (C := Try.checked) (n := 2) (tb := 4) own started (by kernel_rfl) Try.func7 rfl (by kernel_rfl)
    (of_decide_eq_true (by kernel_rfl)) (by kernel_rfl) (by kernel_rfl) Try.underlying4
    (fun ds hd => by match ds, hd with | [_, _], _ => rfl)
    (ChangeSpec.witness6 (enc := enc) (C := Try.checked) false ⟨#[], #[.int .i64 0, .int .i64 0], []⟩ 8 (by kernel_rfl) (by kernel_rfl) (by kernel_rfl) (by kernel_rfl)) ?_
  intro W base args ds ps hval hA hlt hsz
  rw [Try.params7] at hA hval
  obtain ⟨v0, vs0, d0, ds0, p0, q0, hargs, rfl, rfl, h0, r0⟩ := trodAll_cons hA
  obtain ⟨v1, vs1, d1, ds1, p1, q1, rfl, rfl, rfl, h1, r1⟩ := trodAll_cons r0
  obtain ⟨rfl, rfl, rfl⟩ := trodAll_nil r1
  obtain rfl : args = #[v0, v1] := by cases args; simp_all
  obtain ⟨x0, rfl, rfl, rfl, wn0⟩ := open_int Try.underlying3 (hval 0 _ v0 rfl rfl) h0
  obtain ⟨x1, rfl, rfl, rfl, wn1⟩ := open_int Try.underlying3 (hval 1 _ v1 rfl rfl) h1
  exact walk W x0 x1 (bounds_i64 wn0) (bounds_i64 wn1)

theorem proved : Rows.CommitteeQuorumsSaid :=
  OpenClaim.holds_of_wide 7 Try.f7 rfl rfl rfl rfl rfl rfl rfl ⟨rfl, rfl, rfl, rfl, rfl⟩ rfl rfl rfl rfl rfl (by kernel_rfl) Try.func7 (by kernel_rfl)
    (of_decide_eq_true (by kernel_rfl)) (by unfold Func.isWrapper; first | (rw [if_pos (by decide +kernel)]; kernel_rfl) | (rw [if_neg (by decide +kernel)]; exact ⟨rfl, rfl⟩))
    (fun os started H enc _ => lifted os started H enc)
#print axioms proved
end Go.Proofs.Ytonchdillkhjbaa.committeeQuorums
