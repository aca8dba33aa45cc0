/-
  The statement CommitteeStays, proved for all numbers and masks, with no condition: a member that is not expelled stays in the committee when more validators are expelled; a validator that enters is the least one that was not in it.
-/
import Derived.Test.YtonchdillkhjbaaLaw6A
import Derived.Test.YtonchdillkhjbaaComm2
import Derived.Test.YtonchdillkhjbaaSkip
namespace Go.Proofs.Ytonchdillkhjbaa.committeeStays
open Go.ChangeShapes Go.WideShapes Go.ChangeAt Go.RowKit Go.Fl

set_option maxRecDepth 10000 in
set_option maxHeartbeats 1000000 in
theorem walk (w : World) (v0 s0 g more : Int) (hv : I64 v0) (hs : I64 s0) (hg : I64 g) (_hmore : I64 more) :
    Calls Try.prog 8 #[.int .i64 v0, .int .i64 s0, .int .i64 g, .int .i64 more] w fun e w' => e = .returned (.bool true) ∧ Below w.heap.size w w' := by
  obtain ⟨hv1, hv2⟩ := hv
  obtain ⟨hs1, hs2⟩ := hs
  obtain ⟨P, hP⟩ : ∃ n : Nat, IntKind.u64.wrap v0 = (n : Int) := ⟨(IntKind.u64.wrap v0).toNat, by rw [IntKind.wrap_u64]; omega⟩
  obtain ⟨R, hR⟩ : ∃ n : Nat, IntKind.u64.wrap s0 = (n : Int) := ⟨(IntKind.u64.wrap s0).toNat, by rw [IntKind.wrap_u64]; omega⟩
  obtain ⟨V, hV⟩ : ∃ n : Nat, P % 11 = n := ⟨_, rfl⟩
  have hV1 : (P : Int) % 11 = (V : Int) := by omega
  have hV2 : Int.tmod (P : Int) 11 = (V : Int) := by rw [Int.tmod_eq_emod_of_nonneg (by omega)]; exact hV1
  have hV3 : IntKind.i64.wrap (V : Int) = (V : Int) := by rw [IntKind.wrap_i64]; omega
  have hV4 : IntKind.u64.wrap (V : Int) = (V : Int) := by rw [IntKind.wrap_u64]; omega
  obtain ⟨S, hS⟩ : ∃ n : Nat, R % 8 = n := ⟨_, rfl⟩
  have hS1 : (R : Int) % 8 = (S : Int) := by omega
  have hS2 : Int.tmod (R : Int) 8 = (S : Int) := by rw [Int.tmod_eq_emod_of_nonneg (by omega)]; exact hS1
  have hS3 : IntKind.i64.wrap (S : Int) = (S : Int) := by rw [IntKind.wrap_i64]; omega
  have hS4 : IntKind.u64.wrap (S : Int) = (S : Int) := by rw [IntKind.wrap_u64]; omega
  have hV10 : V ≤ 10 := by omega
  have hS7 : S ≤ 7 := by omega
  have hIG := I64_bits .or g more
  have hst1 := stay_out (V : Int) (bits .or .i64 g more) S
  have hst2 := stay_in (V : Int) g more S
  have hst3 := fun (i : Nat) (h1 : (i : Int) < (V : Int)) (h2 : i < 10) => stay_full (V : Int) (bits .or .i64 g more) S i h1 h2
  have hbN := fun (i : Nat) (h : i < 64) => bitM_orF ((freeF (V : Int) (bits .or .i64 g more)).take S) i h
  have hidN := idsF_orF (take_sub10 (freeF_sub (V : Int) (bits .or .i64 g more)) S)
  have hidO := idsF_orF (take_sub10 (freeF_sub (V : Int) g) S)
  have hIN := I64_orF (take_sub10 (freeF_sub (V : Int) (bits .or .i64 g more)) S)
  have hIO := I64_orF (take_sub10 (freeF_sub (V : Int) g) S)
  have hsN : selF (V : Int) (S : Int) (bits .or .i64 g more) = (orF ((freeF (V : Int) (bits .or .i64 g more)).take S) : Int) := by unfold selF; rw [Int.toNat_natCast]
  have hsO : selF (V : Int) (S : Int) g = (orF ((freeF (V : Int) g).take S) : Int) := by unfold selF; rw [Int.toNat_natCast]
  have hsubN := take_sub10 (freeF_sub (V : Int) (bits .or .i64 g more)) S
  obtain ⟨G, hG⟩ : ∃ G, bits .or .i64 g more = G := ⟨_, rfl⟩
  obtain ⟨N, hN⟩ : ∃ N, orF ((freeF (V : Int) (bits .or .i64 g more)).take S) = N := ⟨_, rfl⟩
  obtain ⟨O, hO⟩ : ∃ O, orF ((freeF (V : Int) g).take S) = O := ⟨_, rfl⟩
  rw [hN] at hst1 hbN hidN hIN hsN
  rw [hO, hN] at hst2
  rw [hO] at hidO hIO hsO
  rw [hG] at hst1 hst3 hbN hidN hsN hIG hsubN
  obtain ⟨L, hL⟩ : ∃ L, (freeF (V : Int) G).take S = L := ⟨_, rfl⟩
  have hst3' : ∀ i : Nat, (i : Int) < (V : Int) → i < 10 → i ∉ L → bitM G i = false → L.length = S ∧ ∀ x ∈ L, x ≤ i := fun i h1 h2 => by rw [← hL]; exact hst3 i h1 h2
  rw [hL] at hbN hidN hsubN
  obtain ⟨K, hK⟩ : ∃ K, ((freeF (V : Int) g).take S).length = K := ⟨_, rfl⟩
  have hKS : K ≤ S := by rw [← hK, List.length_take]; omega
  have eO : ((idsF (O : Int)).length : Int) = (K : Int) := by rw [hidO, hK]
  have k1 : (K : Int) ≤ (S : Int) := by omega
  have k2 : decide (S < K) = false := by rw [decide_eq_false_iff_not]; omega
  have HST := Lib.hid hst3'
  have HBN := Lib.hid hbN
  have HIDN := Lib.hid hidN
  have HIN := Lib.hid hIN
  have HIO := Lib.hid hIO
  have HIG := Lib.hid hIG
  have HGG := Lib.hid hg
  have HSUB := Lib.hid hsubN
  clear hst3 hst3' hbN hidN hidO hIN hIO hIG hN hO hL hK hKS hV hS hg hsubN
  go_enter Try.func8, Try.ntmps8
  go_wp2_with fail
  refine (comC.sel _ (V : Int) (S : Int) g ⟨by omega, by omega⟩ ⟨by omega, by omega⟩ HGG.out).mono ?_
  rintro e w1 ⟨rfl, hb1⟩
  rw [hsO]
  have hB1 := hb1
  go_wp2_with fail
  refine (comC.sel _ (V : Int) (S : Int) G ⟨by omega, by omega⟩ ⟨by omega, by omega⟩ HIG.out).mono ?_
  rintro e w2 ⟨rfl, hb2⟩
  rw [hsN]
  have hB2 := hB1.trans (hb2.mono hB1.size)
  go_wp2_with fail
  refine (comC.size _ (O : Int) HIO.out).mono ?_
  rintro e w3 ⟨rfl, hb3⟩
  rw [eO]
  have hB3 := hB2.trans (hb3.mono hB2.size)
  go_wp2_with fail
  go_loopw [11] (fun i wr => ∃ j : Nat, j ≤ V ∧ i = .int .i64 (j : Int) ∧ Below w.heap.size w wr) (fun i _ => V - (intOf i).toNat)
  case atStart => exact ⟨0, by omega, rfl, hB3⟩
  case round =>
    obtain ⟨j, hj, rfl, hBr⟩ := hrel
    by_cases hlt : j < V
    · have s1 : (j : Int) < (V : Int) := by omega
      have s0 : (0 : Int) ≤ (j : Int) := by omega
      have s10 : (j : Int) ≤ 10 := by omega
      have hh : hasF (N : Int) (j : Int) = decide (j ∈ L) := by rw [hasF_nat _ _ (by omega)]; exact HBN.out j (by omega)
      by_cases hin : j ∈ L
      · rw [decide_eq_true hin] at hh
        go_wp2_with fail
        refine (comC.has _ (N : Int) (j : Int) HIN.out ⟨by omega, by omega⟩).mono ?_
        rintro e w4 ⟨rfl, hb4⟩
        rw [hh]
        have hB4 := hBr.trans (hb4.mono hBr.size)
        go_wp2_with fail
        go_roundw
        case rel => exact ⟨j + 1, by omega, by go_num, hB4⟩
        case measure => simp [intOf]; omega
      · rw [decide_eq_false hin] at hh
        have hhG := hasF_nat G j (by omega)
        cases hbit : bitM G j with
        | true =>
          rw [hbit] at hhG
          go_wp2_with fail
          refine (comC.has _ (N : Int) (j : Int) HIN.out ⟨by omega, by omega⟩).mono ?_
          rintro e w4 ⟨rfl, hb4⟩
          rw [hh]
          have hB4 := hBr.trans (hb4.mono hBr.size)
          go_wp2_with fail
          refine (comC.has _ G (j : Int) HIG.out ⟨by omega, by omega⟩).mono ?_
          rintro e w5 ⟨rfl, hb5⟩
          rw [hhG]
          have hB5 := hB4.trans (hb5.mono hB4.size)
          go_wp2_with fail
          go_roundw
          case rel => exact ⟨j + 1, by omega, by go_num, hB5⟩
          case measure => simp [intOf]; omega
        | false =>
          rw [hbit] at hhG
          obtain ⟨hlen, hle⟩ := HST.out j s1 (by omega) hin hbit
          have HLE := Lib.hid hle
          have HLEN := Lib.hid hlen
          clear hle hlen
          go_wp2_with fail
          refine (comC.has _ (N : Int) (j : Int) HIN.out ⟨by omega, by omega⟩).mono ?_
          rintro e w4 ⟨rfl, hb4⟩
          rw [hh]
          have hB4 := hBr.trans (hb4.mono hBr.size)
          go_wp2_with fail
          refine (comC.has _ G (j : Int) HIG.out ⟨by omega, by omega⟩).mono ?_
          rintro e w5 ⟨rfl, hb5⟩
          rw [hhG]
          have hB5 := hB4.trans (hb5.mono hB4.size)
          go_wp2_with fail
          refine (comC.ids _ (N : Int) HIN.out).mono ?_
          rintro e w6 ⟨u, rfl, ho, hb6⟩
          have hB6 := hB5.trans (hb6.mono hB5.size)
          rw [HIDN.out] at ho
          obtain ⟨A, n', c, rfl, hn', hc, -, -⟩ := ho.form_n
          have en : n' = S := by rw [hn'.out, HLEN.out]
          subst en
          have HOI := Lib.hid ho
          clear ho hn' hc
          by_cases hS0 : n' = 0
          · have z1 : decide (0 < n') = false := by rw [decide_eq_false_iff_not]; omega
            have z2 : ¬ 0 < n' := by omega
            clear hS0
            go_wp2_with fail
            go_roundw
            case rel => exact ⟨j + 1, by omega, by go_num, hB6⟩
            case measure => simp [intOf]; omega
          · obtain ⟨x, hx⟩ : ∃ x, L[n' - 1]? = some x := ⟨_, List.getElem?_eq_getElem (by have := HLEN.out; omega)⟩
            have hxj := HLE.out x (List.mem_of_getElem? hx)
            obtain ⟨q, hq⟩ : ∃ q, n' - 1 = q := ⟨_, rfl⟩
            rw [hq] at hx
            obtain ⟨g2, rfl, -, hg2, hcx⟩ := oi_cell HOI.out hx
            have p1 : (0 : Int) < (n' : Int) := by omega
            have p2 : (n' : Int) - 1 = (q : Int) := by omega
            have p3 : IntKind.i64.wrap (q : Int) = (q : Int) := by rw [IntKind.wrap_i64]; omega
            have p4 : (q : Int) < (n' : Int) := by omega
            have p5 : (0 : Int) ≤ (q : Int) := by omega
            have p6 : (x : Int) ≤ (j : Int) := by omega
            have p7 : q < n' := by omega
            clear hq hx
            go_wp2_with fail
            go_roundw
            case rel => exact ⟨j + 1, by omega, by go_num, hB6⟩
            case measure => simp [intOf]; omega
    · obtain rfl : j = V := by omega
      go_wp2_with fail
      refine (awake_any _).mono ?_
      rintro e w51 ⟨rfl, hb51⟩
      have hB51 := hBr.trans (hb51.mono hBr.size)
      go_wp2_with fail
      go_ret
      exact ⟨rfl, hB51⟩

set_option maxRecDepth 100000 in
/-- The law's step, at every reading. -/
theorem lifted (os : Os) (started : os.Started) (H : Type) (enc : TypeId × Value → H) :
    ReturnsInHanded {} Try.checked os 8 .any (Rows.committeeStaysSpec.pre6 enc Try.prog Try.f8 Rows.committeeStaysRow.domain false) (Rows.committeeStaysSpec.post enc Try.prog Try.f8 false true false false) := by
  refine law_lifted (C := Try.checked) (n := 4) (tb := 4) own started (by kernel_rfl) Try.func8 rfl (by kernel_rfl)
    (of_decide_eq_true (by kernel_rfl)) (by kernel_rfl) (by kernel_rfl) Try.underlying4
    (fun ds hd => by match ds, hd with | [_, _, _, _], _ => rfl)
    (ChangeSpec.witness6 (enc := enc) (C := Try.checked) false ⟨#[], #[.int .i64 0, .int .i64 0, .int .i64 0, .int .i64 0], []⟩ 8 (by kernel_rfl) (by kernel_rfl) (by kernel_rfl) (by kernel_rfl)) ?_
  intro W base args ds ps hval hA hlt hsz
  rw [Try.params8] at hA hval
  obtain ⟨v0, vs0, d0, ds0, p0, q0, hargs, rfl, rfl, h0, r0⟩ := trodAll_cons hA
  obtain ⟨v1, vs1, d1, ds1, p1, q1, rfl, rfl, rfl, h1, r1⟩ := trodAll_cons r0
  obtain ⟨v2, vs2, d2, ds2, p2, q2, rfl, rfl, rfl, h2, r2⟩ := trodAll_cons r1
  obtain ⟨v3, vs3, d3, ds3, p3, q3, rfl, rfl, rfl, h3, r3⟩ := trodAll_cons r2
  obtain ⟨rfl, rfl, rfl⟩ := trodAll_nil r3
  obtain rfl : args = #[v0, v1, v2, v3] := by cases args; simp_all
  obtain ⟨x0, rfl, rfl, rfl, wn0⟩ := open_int Try.underlying3 (hval 0 _ v0 rfl rfl) h0
  obtain ⟨x1, rfl, rfl, rfl, wn1⟩ := open_int Try.underlying3 (hval 1 _ v1 rfl rfl) h1
  obtain ⟨x2, rfl, rfl, rfl, wn2⟩ := open_int Try.underlying25 (hval 2 _ v2 rfl rfl) h2
  obtain ⟨x3, rfl, rfl, rfl, wn3⟩ := open_int Try.underlying25 (hval 3 _ v3 rfl rfl) h3
  exact walk W x0 x1 x2 x3 (bounds_i64 wn0) (bounds_i64 wn1) (bounds_i64 wn2) (bounds_i64 wn3)

theorem proved : Rows.CommitteeStaysSaid :=
  OpenClaim.holds_of_wide 8 Try.f8 rfl rfl rfl rfl rfl rfl rfl ⟨rfl, rfl, rfl, rfl, rfl⟩ rfl rfl rfl rfl rfl (by kernel_rfl) Try.func8 (by kernel_rfl)
    (of_decide_eq_true (by kernel_rfl)) (by unfold Func.isWrapper; first | (rw [if_pos (by decide +kernel)]; kernel_rfl) | (rw [if_neg (by decide +kernel)]; exact ⟨rfl, rfl⟩))
    (fun os started H enc _ => lifted os started H enc)
#print axioms proved
end Go.Proofs.Ytonchdillkhjbaa.committeeStays
