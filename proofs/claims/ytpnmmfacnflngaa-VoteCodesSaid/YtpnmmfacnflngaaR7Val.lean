/-
  forkledgerref6: Valid.
-/
import Derived.Test.YtpnmmfacnflngaaR7Va1
import Derived.Test.YtpnmmfacnflngaaR7Va2
import Derived.Test.YtpnmmfacnflngaaR7Va3
import Derived.Test.YtpnmmfacnflngaaR7Va4
import Derived.Test.YtpnmmfacnflngaaSeat
import Derived.BigQuiet
namespace Go.Proofs.Ytpnmmfacnflngaa
open Go.ChangeShapes Go.WideShapes Go.ChangeAt Go.RowKit Go.Fl

attribute [local go_sem] equal_nm eqGuard_nm

theorem rvalid_any (v : VoteV) (hv : v.I) (w : World) : Calls Try.prog 11 #[vV v] w fun e w' => e = .returned (.bool (validF v)) ∧ Below w.heap.size w w' := by
  obtain ⟨-, -, -, -, -, hsup⟩ := hv
  have hsup2 := andNot_1023 v.sup hsup
  by_cases k1 : v.kind < 1
  · rw [validF_false (fun h => by have := h.1; omega)]
    exact rvalid_1 v w k1
  by_cases k7 : 7 < v.kind
  · rw [validF_false (fun h => by have := h.1; omega)]
    exact rvalid_2 v w (by omega) k7
  by_cases s0 : v.signer < 0
  · rw [validF_false (fun h => by have := h.2.1; omega)]
    exact rvalid_3 v w (by omega) (by omega) s0
  by_cases s9 : 10 ≤ v.signer
  · rw [validF_false (fun h => by have := h.2.1; omega)]
    exact rvalid_4 v w (by omega) (by omega) (by omega) s9
  by_cases an : bits .andNot .i64 v.sup 1023 = 0
  case neg =>
    rw [validF_false (fun h => an (hsup2.2 h.2.2.1))]
    exact rvalid_5 v w (by omega) (by omega) (by omega) (by omega) (by simpa using an)
  have hs := hsup2.1 an
  have K1 : 1 ≤ v.kind := by omega
  have K7 : v.kind ≤ 7 := by omega
  have S0 : 0 ≤ v.signer := by omega
  have S9 : v.signer < 10 := by omega
  have hbf : ∀ a b : Int, a ≠ b → (a == b) = false := fun a b h => beq_eq_false_iff_ne.2 h
  have hbt : ∀ a b : Int, a ≠ b → (a != b) = true := fun a b h => by rw [bne, hbf a b h]; rfl
  clear k1 k7 s0 s9 hsup hsup2
  -- the slot
  by_cases ag : v.kind ≤ 4
  · by_cases sl0 : v.slot < 0
    · rw [validF_false (fun h => by have := h.2.2.2.1; rw [if_pos ag] at this; omega)]
      exact rvalid_6 v w K1 K7 S0 S9 an ag sl0
    by_cases sl9 : 10 ≤ v.slot
    · rw [validF_false (fun h => by have := h.2.2.2.1; rw [if_pos ag] at this; omega)]
      exact rvalid_7 v w K1 K7 S0 S9 an ag (by omega) sl9
    have SL0 : 0 ≤ v.slot := by omega
    have SL9 : v.slot < 10 := by omega
    have hslot : if v.kind ≤ 4 then 0 ≤ v.slot ∧ v.slot < 10 else v.slot = 0 := by rw [if_pos ag]; exact ⟨SL0, SL9⟩
    clear sl0 sl9
    by_cases c1 : v.choice = 1
    · by_cases hz : v.value = 0
      · rw [validF_false (fun h => absurd c1 (h.2.2.2.2.1.1 hz))]
        exact rvalid_9 v w K1 K7 S0 S9 an ag SL0 SL9 (show nmEq v.value 0#64 = true by simp [hz, nmEq]) (show (v.choice == 1) = true by simp [c1]) rfl
      have Z : nmEq v.value 0#64 = false := nmEq_ne hz
      have hvc : (v.value = 0) ↔ v.choice ≠ 1 := ⟨fun h => absurd h hz, fun h => absurd c1 h⟩
      have CC : (v.choice == 1) = true := by rw [c1]; rfl
      by_cases k3 : v.kind = 3
      · by_cases r0 : v.round < 1
        · rw [validF_false (fun h => by have := h.2.2.2.2.2; rw [if_pos k3] at this; omega)]
          exact rvalid_11 v w K1 K7 S0 S9 an ag SL0 SL9 k3 Z CC rfl r0
        by_cases r12 : 12 < v.round
        · rw [validF_false (fun h => by have := h.2.2.2.2.2; rw [if_pos k3] at this; omega)]
          exact rvalid_12 v w K1 K7 S0 S9 an ag SL0 SL9 k3 Z CC rfl (by omega) r12
        rw [validF_true ⟨⟨K1, K7⟩, ⟨S0, S9⟩, hs, hslot, hvc, by rw [if_pos k3]; exact ⟨by omega, Or.inr c1, by omega⟩⟩]
        by_cases r1 : v.round = 1
        · exact rvalid_17 v w K1 K7 S0 S9 an ag SL0 SL9 k3 c1 Z r1
        · exact rvalid_16 v w K1 K7 S0 S9 an ag SL0 SL9 k3 (by omega) (by omega) c1 Z (hbt _ _ r1)
      by_cases k4 : v.kind = 4
      · by_cases r0 : v.round < 1
        · rw [validF_false (fun h => by have := h.2.2.2.2.2; rw [if_neg k3, if_pos k4] at this; omega)]
          exact rvalid_19 v w K1 K7 S0 S9 an ag SL0 SL9 k4 Z CC rfl r0
        by_cases r12 : 12 < v.round
        · rw [validF_false (fun h => by have := h.2.2.2.2.2; rw [if_neg k3, if_pos k4] at this; omega)]
          exact rvalid_20 v w K1 K7 S0 S9 an ag SL0 SL9 k4 Z CC rfl (by omega) r12
        rw [validF_true ⟨⟨K1, K7⟩, ⟨S0, S9⟩, hs, hslot, hvc, by rw [if_neg k3, if_pos k4]; exact ⟨by omega, by omega⟩⟩]
        exact rvalid_23 v w K1 K7 S0 S9 an ag SL0 SL9 k4 Z CC rfl (by omega) (by omega) (by omega) (by omega)
      by_cases r0 : v.round = 0
      case neg =>
        rw [validF_false (fun h => by have := h.2.2.2.2.2; rw [if_neg k3, if_neg k4] at this; omega)]
        exact rvalid_24 v w K1 K7 S0 S9 an ag SL0 SL9 (hbf _ _ k3) (hbf _ _ k4) Z CC rfl (hbf _ _ r0)
      by_cases su : v.sup = 0
      · rw [validF_true ⟨⟨K1, K7⟩, ⟨S0, S9⟩, hs, hslot, hvc, by rw [if_neg k3, if_neg k4]; exact ⟨r0, c1, su⟩⟩]
        exact rvalid_27 v w K1 K7 S0 S9 an ag SL0 SL9 (hbf _ _ k3) (hbf _ _ k4) Z r0 c1 su
      · rw [validF_false (fun h => by have := h.2.2.2.2.2; rw [if_neg k3, if_neg k4] at this; omega)]
        exact rvalid_26 v w K1 K7 S0 S9 an ag SL0 SL9 (hbf _ _ k3) (hbf _ _ k4) Z r0 c1 (hbf _ _ su)
    · by_cases hz : v.value = 0
      case neg =>
        rw [validF_false (fun h => hz (h.2.2.2.2.1.2 c1))]
        exact rvalid_9 v w K1 K7 S0 S9 an ag SL0 SL9 (nmEq_ne hz) (hbf _ _ c1) (by rfl)
      have Z : nmEq v.value 0#64 = true := by rw [hz]; exact nmEq_self 0
      have hvc : (v.value = 0) ↔ v.choice ≠ 1 := ⟨fun _ => c1, fun _ => hz⟩
      have CC : (v.choice == 1) = false := hbf _ _ c1
      by_cases k3 : v.kind = 3
      · by_cases r0 : v.round < 1
        · rw [validF_false (fun h => by have := h.2.2.2.2.2; rw [if_pos k3] at this; omega)]
          exact rvalid_11 v w K1 K7 S0 S9 an ag SL0 SL9 k3 Z CC rfl r0
        by_cases r12 : 12 < v.round
        · rw [validF_false (fun h => by have := h.2.2.2.2.2; rw [if_pos k3] at this; omega)]
          exact rvalid_12 v w K1 K7 S0 S9 an ag SL0 SL9 k3 Z CC rfl (by omega) r12
        by_cases c0 : v.choice = 0
        case neg =>
          rw [validF_false (fun h => by have := h.2.2.2.2.2; rw [if_pos k3] at this; omega)]
          exact rvalid_18 v w K1 K7 S0 S9 an ag SL0 SL9 k3 (by omega) (by omega) Z (hbf _ _ c0) CC
        by_cases r1 : v.round = 1
        · by_cases su : v.sup = 0
          · rw [validF_true ⟨⟨K1, K7⟩, ⟨S0, S9⟩, hs, hslot, hvc, by rw [if_pos k3]; exact ⟨by omega, Or.inl c0, fun _ _ => su⟩⟩]
            exact rvalid_14 v w K1 K7 S0 S9 an ag SL0 SL9 k3 c0 Z r1 su
          · rw [validF_false (fun h => by have := h.2.2.2.2.2; rw [if_pos k3] at this; exact su (this.2.2 r1 c0))]
            exact rvalid_15 v w K1 K7 S0 S9 an ag SL0 SL9 k3 c0 Z r1 (hbf _ _ su)
        · rw [validF_true ⟨⟨K1, K7⟩, ⟨S0, S9⟩, hs, hslot, hvc, by rw [if_pos k3]; exact ⟨by omega, Or.inl c0, fun h => absurd h r1⟩⟩]
          exact rvalid_13 v w K1 K7 S0 S9 an ag SL0 SL9 k3 (by omega) (by omega) c0 Z (hbt _ _ r1)
      by_cases k4 : v.kind = 4
      · by_cases r0 : v.round < 1
        · rw [validF_false (fun h => by have := h.2.2.2.2.2; rw [if_neg k3, if_pos k4] at this; omega)]
          exact rvalid_19 v w K1 K7 S0 S9 an ag SL0 SL9 k4 Z CC rfl r0
        by_cases r12 : 12 < v.round
        · rw [validF_false (fun h => by have := h.2.2.2.2.2; rw [if_neg k3, if_pos k4] at this; omega)]
          exact rvalid_20 v w K1 K7 S0 S9 an ag SL0 SL9 k4 Z CC rfl (by omega) r12
        by_cases cl : v.choice < 0
        · rw [validF_false (fun h => by have := h.2.2.2.2.2; rw [if_neg k3, if_pos k4] at this; omega)]
          exact rvalid_21 v w K1 K7 S0 S9 an ag SL0 SL9 k4 Z CC rfl (by omega) (by omega) cl
        by_cases ch : 2 < v.choice
        · rw [validF_false (fun h => by have := h.2.2.2.2.2; rw [if_neg k3, if_pos k4] at this; omega)]
          exact rvalid_22 v w K1 K7 S0 S9 an ag SL0 SL9 k4 Z CC rfl (by omega) (by omega) (by omega) ch
        rw [validF_true ⟨⟨K1, K7⟩, ⟨S0, S9⟩, hs, hslot, hvc, by rw [if_neg k3, if_pos k4]; exact ⟨by omega, by omega⟩⟩]
        exact rvalid_23 v w K1 K7 S0 S9 an ag SL0 SL9 k4 Z CC rfl (by omega) (by omega) (by omega) (by omega)
      rw [validF_false (fun h => by have := h.2.2.2.2.2; rw [if_neg k3, if_neg k4] at this; omega)]
      by_cases r0 : v.round = 0
      · exact rvalid_25 v w K1 K7 S0 S9 an ag SL0 SL9 (hbf _ _ k3) (hbf _ _ k4) Z r0 CC
      · exact rvalid_24 v w K1 K7 S0 S9 an ag SL0 SL9 (hbf _ _ k3) (hbf _ _ k4) Z CC rfl (hbf _ _ r0)
  · have na : 4 < v.kind := by omega
    have k3 : v.kind ≠ 3 := by omega
    have k4 : v.kind ≠ 4 := by omega
    by_cases sz : v.slot = 0
    case neg =>
      rw [validF_false (fun h => by have := h.2.2.2.1; rw [if_neg ag] at this; omega)]
      exact rvalid_8 v w K1 K7 S0 S9 an na (hbt _ _ sz)
    have hslot : if v.kind ≤ 4 then 0 ≤ v.slot ∧ v.slot < 10 else v.slot = 0 := by rw [if_neg ag]; exact sz
    by_cases c1 : v.choice = 1
    · by_cases hz : v.value = 0
      · rw [validF_false (fun h => absurd c1 (h.2.2.2.2.1.1 hz))]
        exact rvalid_10 v w K1 K7 S0 S9 an na sz (show nmEq v.value 0#64 = true by simp [hz, nmEq]) (show (v.choice == 1) = true by simp [c1]) rfl
      have Z : nmEq v.value 0#64 = false := nmEq_ne hz
      have hvc : (v.value = 0) ↔ v.choice ≠ 1 := ⟨fun h => absurd h hz, fun h => absurd c1 h⟩
      have CC : (v.choice == 1) = true := by rw [c1]; rfl
      by_cases r0 : v.round = 0
      case neg =>
        rw [validF_false (fun h => by have := h.2.2.2.2.2; rw [if_neg k3, if_neg k4] at this; omega)]
        exact rvalid_28 v w K1 K7 S0 S9 an na sz (hbf _ _ k3) (hbf _ _ k4) Z CC rfl (hbf _ _ r0)
      by_cases su : v.sup = 0
      · rw [validF_true ⟨⟨K1, K7⟩, ⟨S0, S9⟩, hs, hslot, hvc, by rw [if_neg k3, if_neg k4]; exact ⟨r0, c1, su⟩⟩]
        exact rvalid_31 v w K1 K7 S0 S9 an na sz (hbf _ _ k3) (hbf _ _ k4) Z r0 c1 su
      · rw [validF_false (fun h => by have := h.2.2.2.2.2; rw [if_neg k3, if_neg k4] at this; omega)]
        exact rvalid_30 v w K1 K7 S0 S9 an na sz (hbf _ _ k3) (hbf _ _ k4) Z r0 c1 (hbf _ _ su)
    · by_cases hz : v.value = 0
      case neg =>
        rw [validF_false (fun h => hz (h.2.2.2.2.1.2 c1))]
        exact rvalid_10 v w K1 K7 S0 S9 an na sz (nmEq_ne hz) (hbf _ _ c1) (by rfl)
      have Z : nmEq v.value 0#64 = true := by rw [hz]; exact nmEq_self 0
      have CC : (v.choice == 1) = false := hbf _ _ c1
      rw [validF_false (fun h => by have := h.2.2.2.2.2; rw [if_neg k3, if_neg k4] at this; omega)]
      by_cases r0 : v.round = 0
      · exact rvalid_29 v w K1 K7 S0 S9 an na sz (hbf _ _ k3) (hbf _ _ k4) Z r0 CC
      · exact rvalid_28 v w K1 K7 S0 S9 an na sz (hbf _ _ k3) (hbf _ _ k4) Z CC rfl (hbf _ _ r0)
end Go.Proofs.Ytpnmmfacnflngaa
