/-
  The struct Value of layer 2's laws: what its cells spell, and the small functions on it: kind, width, number.
-/
import Derived.Test.YtnpbohndhgnfjaaLaw2A
import Derived.Test.YtnpbohndhgnfjaaRep
import Derived.Deep.RegionHeld3
namespace Go.Proofs.Ytnpbohndhgnfjaa
open Go.ChangeShapes Go.WideShapes Go.ChangeAt Go.RowKit Go.Fl

theorem cellsI : Try.prog.cellsOf 3 = 1 := by kernel_rfl
theorem cellsU : Try.prog.cellsOf 23 = 1 := by kernel_rfl
theorem cellsB : Try.prog.cellsOf 5 = 1 := by kernel_rfl
theorem cellsN : Try.prog.cellsOf 55 = 8 := by kernel_rfl
theorem cellsBs : Try.prog.cellsOf 22 = 1 := by kernel_rfl
theorem cellsNs : Try.prog.cellsOf 35 = 1 := by kernel_rfl
theorem bytesB : Try.prog.bytesOf 5 = 1 := by kernel_rfl
theorem bytesN : Try.prog.bytesOf 55 = 8 := by kernel_rfl

def rInt : Rep Try.prog 3 Int := repInt Try.underlying3 cellsI
def rU64 : Rep Try.prog 23 (BitVec 64) := repU64 Try.underlying23 cellsU
def rBytes : Rep Try.prog 22 (List UInt8) := repBytes Try.underlying22 Try.underlying5 cellsB cellsBs bytesB
def rNames : Rep Try.prog 35 (List (BitVec 64)) := repNames Try.underlying35 Try.underlying55 Try.underlying5 cellsB cellsN cellsNs bytesN

/-- Kind, Width, V, P, L. -/
abbrev Val := Int × Int × BitVec 64 × List UInt8 × List (BitVec 64) × Unit
def rVal : Rep Try.prog 44 Val :=
  repStruct Try.underlying44 rfl
    (repCons rInt rfl (o2 := 1) (by kernel_rfl) (repCons rInt rfl (o2 := 2) (by kernel_rfl) (repCons rU64 rfl (o2 := 3) (by kernel_rfl) (repCons rBytes rfl (o2 := 4) (by kernel_rfl) (repCons rNames rfl (o2 := 5) (by kernel_rfl) (repNil _ 5)))))) (by kernel_rfl)

/-- The cells of a Value. -/
abbrev valC (k n : Int) (v : BitVec 64) (A : Option Addr) (a c : Nat) (B : Option Addr) (b d : Nat) : Array Value := #[.int .i64 k, .int .i64 n, U v, .slice A a c, .slice B b d]
theorem rVal_form {w : World} {x : Val} {cs : List Value} (h : rVal.is w x cs) : ∃ A a c B b d, cs = (valC x.1 x.2.1 x.2.2.1 A a c B b d).toList ∧ Hid (a = x.2.2.2.1.length) ∧ Hid (b = x.2.2.2.2.1.length) ∧ VB w (.slice A a c) x.2.2.2.1 ∧ VN w (.slice B b d) x.2.2.2.2.1 := by
  obtain ⟨c1, c2, rfl, h1, c3, c4, rfl, h2, c5, c6, rfl, h3, c7, c8, rfl, ⟨pv, h4, hp⟩, c9, c10, rfl, ⟨nv, h5, hn⟩, h6⟩ := h
  cases h1; cases h2; cases h3; cases h4; cases h5; cases h6
  obtain ⟨A, a, c, rfl, ha, _, _, _⟩ := hp.form_n
  obtain ⟨B, b, d, rfl, hb, _, _, _⟩ := hn.form_n
  exact ⟨A, a, c, B, b, d, rfl, ha, hb, hp, hn⟩

def kindF (k : Int) : Int := (k % 18446744073709551616) % 3
def widthF (n : Int) : Int := 1 + (n % 18446744073709551616) % 8
def numberF (n : Int) (v : BitVec 64) : BitVec 64 := BitVec.ofNat 64 (v.toNat % 2 ^ (8 * (widthF n).toNat))
theorem kindF_cases (k : Int) : kindF k = 0 ∨ kindF k = 1 ∨ kindF k = 2 := by unfold kindF; omega
theorem widthF_range (n : Int) : 1 ≤ widthF n ∧ widthF n ≤ 8 := by unfold widthF; omega
theorem kindF_wrap (k : Int) : wrap64 ((IntKind.u64.wrap k).tmod 3) = kindF k := by
  have h1 : 0 ≤ IntKind.u64.wrap k := by rw [IntKind.wrap_u64]; omega
  rw [Int.tmod_eq_emod_of_nonneg h1, IntKind.wrap_u64]
  unfold kindF wrap64
  omega
theorem widthF_wrap (k : Int) : wrap64 (1 + wrap64 ((IntKind.u64.wrap k).tmod 8)) = widthF k := by
  have h1 : 0 ≤ IntKind.u64.wrap k := by rw [IntKind.wrap_u64]; omega
  rw [Int.tmod_eq_emod_of_nonneg h1, IntKind.wrap_u64]
  unfold widthF wrap64
  omega

theorem kind_any (k n : Int) (v : BitVec 64) (A : Option Addr) (a c : Nat) (B : Option Addr) (b d : Nat) (w : World) :
    Calls Try.prog 25 #[.agg (valC k n v A a c B b d)] w fun e w' => e = .returned (.int .i64 (kindF k)) ∧ Below w.heap.size w w' := by
  go_enter Try.func25, Try.ntmps25
  go_wp2
  go_ret
  exact ⟨by rw [← kindF_wrap]; rfl, (Below.refl _ _).alloc (Nat.le_refl _) _⟩
theorem width_any (k n : Int) (v : BitVec 64) (A : Option Addr) (a c : Nat) (B : Option Addr) (b d : Nat) (w : World) :
    Calls Try.prog 26 #[.agg (valC k n v A a c B b d)] w fun e w' => e = .returned (.int .i64 (widthF n)) ∧ Below w.heap.size w w' := by
  go_enter Try.func26, Try.ntmps26
  go_wp2
  go_ret
  exact ⟨by rw [← widthF_wrap]; rfl, (Below.refl _ _).alloc (Nat.le_refl _) _⟩

theorem mask_one (v : BitVec 64) (j : Nat) (M : Int) (hM : M = ((2 ^ j - 1 : Nat) : Int)) (hj : 2 ^ j - 1 < 18446744073709551616) : bits .and .u64 (iu v) M = iu (BitVec.ofNat 64 (v.toNat % 2 ^ j)) := by
  subst hM
  show IntKind.u64.wrap ((BitVec.ofInt 64 (iu v) &&& BitVec.ofInt 64 ((2 ^ j - 1 : Nat) : Int)).toNat : Int) = _
  rw [ofInt_iu, wrap_iu, BitVec.ofInt_natCast]
  congr 1
  rw [BitVec.ofInt_natCast]
  apply BitVec.eq_of_toNat_eq
  have h1 := v.isLt
  have h2 : v.toNat &&& (2 ^ j - 1) = v.toNat % 2 ^ j := Nat.and_two_pow_sub_one_eq_mod _ _
  simp only [BitVec.toNat_ofNat, BitVec.toNat_and]
  rw [Nat.mod_eq_of_lt hj, h2]
theorem mask_iu (q : Int) (h1 : 1 ≤ q) (h2 : q ≤ 7) (v : BitVec 64) :
    bits .and .u64 (iu v) (IntKind.u64.wrap (IntKind.u64.wrap (2 ^ min (IntKind.u64.wrap (IntKind.i64.wrap (8 * q))).toNat 64) - 1)) = iu (BitVec.ofNat 64 (v.toNat % 2 ^ (8 * q.toNat))) := by
  have h : q = 1 ∨ q = 2 ∨ q = 3 ∨ q = 4 ∨ q = 5 ∨ q = 6 ∨ q = 7 := by omega
  rcases h with rfl | rfl | rfl | rfl | rfl | rfl | rfl <;> exact mask_one v _ _ (by decide +kernel) (by decide)
/-- A block that is known whole, in a world that keeps what lies below. -/
def Keeps (w : World) (g : Nat) (t : TypeId) (cs : Array Value) (w' : World) : Prop := Fr w 0 w' ∧ Is w' g t cs
theorem Keeps.step {w w' W : World} {g : Nat} {t : TypeId} {cs : Array Value} (h : Keeps w g t cs W) (hb : Below W.heap.size W w') : Keeps w g t cs w' := ⟨h.1.next hb, h.2.next hb⟩
theorem Keeps.drew {w W : World} {g : Nat} {t : TypeId} {cs : Array Value} (h : Keeps w g t cs W) : Keeps w g t cs W.drew := h.step (Below.refl _ _).drew

set_option maxHeartbeats 1000000 in
theorem number_any (k n : Int) (v : BitVec 64) (A : Option Addr) (a c : Nat) (B : Option Addr) (b d : Nat) (w : World) :
    Calls Try.prog 27 #[.agg (valC k n v A a c B b d)] w fun e w' => e = .returned (U (numberF n v)) ∧ Below w.heap.size w w' := by
  have hr := widthF_range n
  obtain ⟨q, hq⟩ : ∃ q, widthF n = q := ⟨_, rfl⟩
  obtain ⟨y, hy⟩ : ∃ y, numberF n v = y := ⟨_, rfl⟩
  have HQ := Lib.hid hq
  have HY := Lib.hid hy
  rw [hq] at hr
  rw [hy]
  clear hq hy
  by_cases h8 : q = 8
  · go_enter Try.func27, Try.ntmps27
    go_wp2_with fail
    have hI := Is.new w 44 (valC k n v A a c B b d)
    have hF := (Fr.refl w).alloc (.cells (valC k n v A a c B b d) 44)
    refine (width_any k n v A a c B b d _).mono ?_
    rintro e w1 ⟨rfl, hb1⟩
    rw [HQ.out]
    have hc := (hI.next hb1).cell
    have hF1 := hF.next hb1
    clear hI hF hb1
    go_wp2
    go_ret
    refine ⟨?_, hF1.1⟩
    have e : y = v := by
      rw [← HY.out]
      unfold numberF
      rw [HQ.out, h8]
      have e8 : 8 * (8 : Int).toNat = 64 := rfl
      rw [e8]
      have := v.isLt
      apply BitVec.eq_of_toNat_eq
      rw [BitVec.toNat_ofNat]
      omega
    rw [e]
    rfl
  · go_enter Try.func27, Try.ntmps27
    go_wp2_with fail
    have hI := Is.new w 44 (valC k n v A a c B b d)
    have hF := (Fr.refl w).alloc (.cells (valC k n v A a c B b d) 44)
    refine (width_any k n v A a c B b d _).mono ?_
    rintro e w1 ⟨rfl, hb1⟩
    rw [HQ.out]
    have hK : Keeps w w.heap.size 44 (valC k n v A a c B b d) w1 := ⟨(hF.next hb1).le (Nat.zero_le _), hI.next hb1⟩
    have hc := fun (w' : World) (h : Keeps w w.heap.size 44 (valC k n v A a c B b d) w') => h.2.cell
    clear hI hF hb1
    go_wp2
    go_region_held3 (fun w' => Keeps w w.heap.size 44 (valC k n v A a c B b d) w')
      (first | exact hK.drew | assumption | exact Keeps.step (by assumption) hb)
      (first | (go_at_call 26; refine (width_any k n v A a c B b d _).mono ?_; rintro e w' ⟨rfl, hb⟩; rw [HQ.out]))
    go_goals
    all_goals go_wp2
    all_goals go_ret
    all_goals refine ⟨?_, (by assumption : Keeps w w.heap.size 44 (valC k n v A a c B b d) _).1.1⟩
    all_goals (
      have e : numberF n v = BitVec.ofNat 64 (v.toNat % 2 ^ (8 * q.toNat)) := by unfold numberF; rw [HQ.out]
      have e2 := mask_iu q (by omega) (by omega) v
      rw [← e, HY.out] at e2
      exact congrArg (fun z => Ending.returned (Value.int IntKind.u64 z)) e2)
end Go.Proofs.Ytnpbohndhgnfjaa
