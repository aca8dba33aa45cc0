/-
  forkledgerref1.Uint: the number that the bytes at an offset spell, the highest first; false where they don't lie there.
-/
import Derived.Test.YtnpbohndhgnfjaaSeat
namespace Go.Fl
open Go.ChangeShapes Go.WideShapes Go.ChangeAt Go.RowKit

/-- The number that bytes spell, the highest first. -/
def beI (l : List UInt8) : Int := l.foldl (fun a b => a * 256 + ub b) 0
theorem beI_snoc (l : List UInt8) (b : UInt8) : beI (l ++ [b]) = beI l * 256 + ub b := by simp [beI]
theorem beI_range (l : List UInt8) : 0 ≤ beI l ∧ beI l < 256 ^ l.length := by
  suffices h : ∀ n : Nat, ∀ l : List UInt8, l.length = n → 0 ≤ beI l ∧ beI l < 256 ^ l.length from h _ l rfl
  intro n
  induction n with
  | zero =>
    intro l hl
    have : l = [] := List.eq_nil_of_length_eq_zero hl
    subst this
    simp [beI]
  | succ n ih =>
    intro l hl
    have hne : l ≠ [] := by intro h; simp [h] at hl
    have e := List.dropLast_concat_getLast hne
    have h1 := ih l.dropLast (by simp; omega)
    have lo := ub_lo (l.getLast hne)
    have hi := ub_hi (l.getLast hne)
    rw [← e, beI_snoc]
    have h2 : (l.dropLast ++ [l.getLast hne]).length = l.dropLast.length + 1 := by simp
    rw [h2, Int.pow_succ]
    omega
theorem pow256 {a b : Nat} (h : a ≤ b) : (256 : Int) ^ a ≤ 256 ^ b := by
  have e : ∀ n : Nat, (256 : Int) ^ n = ((256 ^ n : Nat) : Int) := fun n => by rw [Int.natCast_pow]; rfl
  rw [e, e]
  exact Int.ofNat_le.2 (Nat.pow_le_pow_right (by omega) h)
def uintV (l : List UInt8) : BitVec 64 := BitVec.ofInt 64 (beI l)
theorem uintV_iu (l : List UInt8) (h : l.length ≤ 8) : iu (uintV l) = beI l := by
  have h1 := beI_range l
  have h2 : (256 : Int) ^ l.length ≤ 256 ^ 8 := pow256 h
  unfold uintV
  rw [← wrap_iu, IntKind.wrap_u64]
  omega
theorem beI_step (l : List UInt8) (b : UInt8) (h : l.length < 8) : bits .or .u64 (beI l * 256) (ub b) = beI (l ++ [b]) := by
  have h1 := beI_range l
  have h2 : (256 : Int) ^ l.length ≤ 256 ^ 7 := pow256 (by omega)
  have lo := ub_lo b
  have hi := ub_hi b
  rw [or_add 8 _ _ (by omega) (by omega) (by omega) (by omega) (by omega) (by omega), beI_snoc]
theorem beI_lt (l : List UInt8) (h : l.length < 8) : 0 ≤ beI l ∧ beI l < 72057594037927936 := by
  have h1 := beI_range l
  have h2 : (256 : Int) ^ l.length ≤ 256 ^ 7 := pow256 (by omega)
  omega
theorem part_snoc (l : List UInt8) (p k : Nat) (b : UInt8) (h : l[p + k]? = some b) : (l.drop p).take k ++ [b] = (l.drop p).take (k + 1) := by
  rw [List.take_add_one, List.getElem?_drop, h]
  rfl
theorem part_len (l : List UInt8) (p k : Nat) (h : p + k ≤ l.length) : ((l.drop p).take k).length = k := by simp; omega
end Go.Fl
namespace Go.Proofs.Ytnpbohndhgnfjaa
open Go.ChangeShapes Go.WideShapes Go.ChangeAt Go.RowKit Go.Fl

theorem ruint_no (A : Option Addr) (l : List UInt8) (c : Nat) (p n : Int) (h : n < 1 ∨ 8 < n ∨ p < 0 ∨ (l.length : Int) - n < p) (hm : l.length ≤ 281474976710656) (w : World) :
    Calls Try.prog 10 #[.slice A l.length c, .int .i64 p, .int .i64 n] w fun e w' => e = .returned (.tuple #[.int .u64 0, .bool false]) ∧ w = w' := by
  have hm' : (l.length : Int) ≤ 281474976710656 := by omega
  have hl0 : (0 : Int) ≤ (l.length : Int) := by omega
  by_cases h1 : n < 1
  · go_enter Try.func10, Try.ntmps10
    go_wp2
    go_ret2
    exact ⟨rfl, rfl⟩
  · by_cases h2 : 8 < n
    · go_enter Try.func10, Try.ntmps10
      go_wp2
      go_ret2
      exact ⟨rfl, rfl⟩
    · by_cases h3 : p < 0
      · go_enter Try.func10, Try.ntmps10
        go_wp2
        go_ret2
        exact ⟨rfl, rfl⟩
      · have h4 : (l.length : Int) - n < p := by omega
        clear h
        go_enter Try.func10, Try.ntmps10
        go_wp2
        go_ret2
        exact ⟨rfl, rfl⟩

set_option maxHeartbeats 1000000 in
theorem ruint_yes (A : Option Addr) (l : List UInt8) (c : Nat) (p n : Nat) (h1 : 1 ≤ n) (h8 : n ≤ 8) (hp : p + n ≤ l.length) (hm : l.length ≤ 281474976710656) (w : World) (hr : RB w w.heap.size A l) :
    Calls Try.prog 10 #[.slice A l.length c, .int .i64 p, .int .i64 n] w fun e w' => e = .returned (.tuple #[U (uintV ((l.drop p).take n)), .bool true]) ∧ w = w' := by
  obtain ⟨g, off, rfl, hg, hcell⟩ := hr (by omega)
  clear hr
  have q1 : (1 : Int) ≤ (n : Int) := by omega
  have q2 : (n : Int) ≤ 8 := by omega
  have q3 : (0 : Int) ≤ (p : Int) := by omega
  have q4 : (p : Int) ≤ (l.length : Int) - (n : Int) := by omega
  have q5 : (l.length : Int) ≤ 281474976710656 := by omega
  go_enter Try.func10, Try.ntmps10
  go_wp2
  go_loop [8, 9] (fun v i => ∃ k : Nat, k ≤ n ∧ i = .int .i64 k ∧ v = .int .u64 (beI ((l.drop p).take k))) (fun _ i => n - (intOf i).toNat)
  case atStart => exact ⟨0, by omega, rfl, by simp [beI]⟩
  case round =>
    obtain ⟨k, hk, rfl, rfl⟩ := hrel
    by_cases h : k < n
    · have hlen : ((l.drop p).take k).length = k := part_len l p k (by omega)
      obtain ⟨b, hb⟩ : ∃ b, l[p + k]? = some b := ⟨_, List.getElem?_eq_getElem (by omega)⟩
      have hstep := beI_step ((l.drop p).take k) b (by omega)
      rw [part_snoc l p k b hb] at hstep
      have HS := Lib.hid hstep
      obtain ⟨r0, r1⟩ := beI_lt ((l.drop p).take k) (by omega)
      have hc := hcell (p + k) b hb
      have lo := ub_lo b
      have hi := ub_hi b
      have s1 : (k : Int) < (n : Int) := by omega
      have s2 : (p : Int) + (k : Int) < (l.length : Int) := by omega
      clear hstep hlen hcell hb
      go_wp2
      go_round
      case rel => exact ⟨k + 1, by omega, by go_num, by rw [HS.out]⟩
      case measure => simp [intOf]; omega
    · obtain rfl : k = n := by omega
      go_wp2
      go_ret2
      exact ⟨by rw [← uintV_iu _ (by rw [part_len l p k hp]; exact h8)]; rfl, rfl⟩
end Go.Proofs.Ytnpbohndhgnfjaa
