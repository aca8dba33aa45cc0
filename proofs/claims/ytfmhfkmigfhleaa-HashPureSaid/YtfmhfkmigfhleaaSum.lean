/-
  The hash of a byte string as the program computes it: 'sumF' of its bytes, for every slice of bytes; memory is left as it was.
-/
import Derived.Test.YtfmhfkmigfhleaaMix
import Derived.Test.YtfmhfkmigfhleaaBytes
namespace Go.Proofs.Ytfmhfkmigfhleaa
open Go.ChangeShapes Go.WideShapes Go.ChangeAt Go.RowKit Go.Fl

abbrev St := BitVec 64 × BitVec 64
def mixS (s : St) : St := (mixX s.1 s.2, mixY s.1 s.2)
def mixN : Nat → St → St
  | 0, s => s
  | k + 1, s => mixS (mixN k s)
/-- What one word makes of the state. -/
def roundS (s : St) (v : BitVec 64) : St := mixS (mixS (s.1 ^^^ v, s.2))
def absorbF (s : St) (l : List UInt8) : St := if _h : l = [] then s else absorbF (roundS s (wordOf l)) (l.drop 8)
termination_by l.length
decreasing_by
  have : 0 < l.length := List.length_pos_iff.2 ‹_›
  simp
  omega
theorem absorbF_nil (s : St) : absorbF s [] = s := by rw [absorbF]; simp
theorem absorbF_cons {s : St} {l : List UInt8} (h : 0 < l.length) : absorbF s l = absorbF (roundS s (wordOf l)) (l.drop 8) := by
  rw [absorbF, dif_neg (List.length_pos_iff.1 h)]
/-- A length as a 64 bit number. -/
def ofn (n : Nat) : BitVec 64 := BitVec.ofNat 64 n
def finF (s : St) (n : Nat) : BitVec 64 := (mixN 4 (s.1, s.2 ^^^ ofn n)).1 ^^^ (mixN 4 (s.1, s.2 ^^^ ofn n)).2
theorem mixN_fst (k : Nat) (s : St) : mixX (mixN k s).1 (mixN k s).2 = (mixN (k + 1) s).1 := by rw [mixN]; rfl
theorem mixN_snd (k : Nat) (s : St) : mixY (mixN k s).1 (mixN k s).2 = (mixN (k + 1) s).2 := by rw [mixN]; rfl
theorem finF_eq (x y : BitVec 64) (n : Nat) : (mixN 4 (x, y ^^^ ofn n)).1 ^^^ (mixN 4 (x, y ^^^ ofn n)).2 = finF (x, y) n := rfl
def start : St := (2611923443488327891#64, 1376283091369227076#64)
/-- The hash of a byte string. -/
def sumF (l : List UInt8) : BitVec 64 := finF (absorbF start l) l.length

theorem bits_xor_iu_nat (y : BitVec 64) (n : Nat) : bits .xor .u64 (iu y) (n : Int) = iu (y ^^^ ofn n) := by
  show IntKind.u64.wrap ((BitVec.ofInt 64 (iu y) ^^^ BitVec.ofInt 64 (n : Int)).toNat : Int) = _
  rw [ofInt_iu, wrap_iu, BitVec.ofInt_natCast, BitVec.ofInt_natCast]
  unfold ofn
  congr 1
  apply BitVec.eq_of_toNat_eq
  simp

attribute [local go_sem] bits_xor_iu bits_xor_iu_nat

theorem name_info : (Try.prog.info? 24).map (·.size) = some 8 := by kernel_rfl

set_option maxHeartbeats 400000 in
theorem finish_any (x y : BitVec 64) (n : Nat) (hn : n ≤ 9223372036854775807) (w : World) :
    Calls Try.prog 22 #[U x, U y, .int .i64 n] w fun e w' => e = .returned (nm (finF (x, y) n)) ∧ Below w.heap.size w w' := by
  go_enter Try.func22, Try.ntmps22
  go_wp2
  go_loop [0, 1, 11] (fun a b i => ∃ k : Nat, k ≤ 4 ∧ i = .int .i64 k ∧ a = U (mixN k (x, y ^^^ ofn n)).1 ∧ b = U (mixN k (x, y ^^^ ofn n)).2) (fun _ _ i => 4 - (intOf i).toNat)
  case atStart => exact ⟨0, by omega, rfl, rfl, rfl⟩
  case round =>
    obtain ⟨k, hk, rfl, rfl, rfl⟩ := hrel
    by_cases h : k < 4
    · go_wp2_with (go_at_call 25; refine (mix_any _ _ _).mono ?_; rintro e w' ⟨rfl, rfl⟩)
      go_round
      case rel => exact ⟨k + 1, by omega, by go_num, by rw [mixN_fst], by rw [mixN_snd]⟩
      case measure => simp [intOf]; omega
    · obtain rfl : k = 4 := by omega
      have hz := Is.new w 24 #[B 0, B 0, B 0, B 0, B 0, B 0, B 0, B 0]
      have hF : Fr w 1 (w.alloc (.cells #[B 0, B 0, B 0, B 0, B 0, B 0, B 0, B 0] 24)) := (Fr.refl w).alloc _
      go_wp2_with (first
        | (go_at_call 15; refine (of_any _ _).mono ?_; rintro e w1 ⟨rfl, hb⟩; replace hz := hz.next hb; replace hF := hF.next hb)
        | (refine wpList_store_is rfl 24 (.tmp 6) (.tmp 23) rfl w.heap.size 24 _ (nmC _) rfl rfl hz (nmC_size _) name_info (nmC_one _) ?_; intro w2 hz2 hb2))
      exact ret_is rfl w.heap.size 24 _ rfl hz2 Try.underlying24 rfl name_info rfl ⟨by rw [finF_eq], hF.1.trans hb2⟩

end Go.Proofs.Ytfmhfkmigfhleaa
