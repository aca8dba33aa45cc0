/-
  Values that are slices of bytes or of names ('VB', 'VN'); numbers with a sign ('I64'); lists of names compared, made and cut.
-/
import Derived.Test.YtpnmmfacnflngaaNames
import Derived.Laws.OwnMore
namespace Go.Fl
open Go.ChangeShapes Go.WideShapes Go.ChangeAt Go.RowKit

/-- This value is a slice of these bytes. -/
def VB (w : World) (v : Value) (l : List UInt8) : Prop := ∃ A c, v = .slice A l.length c ∧ l.length ≤ c ∧ c ≤ 9223372036854775807 ∧ RB w w.heap.size A l
/-- This value is a slice of these names. -/
def VN (w : World) (v : Value) (l : List (BitVec 64)) : Prop := ∃ A c, v = .slice A l.length c ∧ l.length ≤ c ∧ c ≤ 9223372036854775807 ∧ RN w w.heap.size A l
section
variable {w w' : World} {v : Value} {l : List UInt8} {m : List (BitVec 64)} {base : Nat} {t : TypeId}
theorem VB.next (h : VB w v l) (hb : Below w.heap.size w w') : VB w' v l := by
  obtain ⟨A, c, rfl, h1, h2, h3⟩ := h
  exact ⟨A, c, rfl, h1, h2, (h3.keep hb).mono hb.size⟩
theorem VN.next (h : VN w v m) (hb : Below w.heap.size w w') : VN w' v m := by
  obtain ⟨A, c, rfl, h1, h2, h3⟩ := h
  exact ⟨A, c, rfl, h1, h2, (h3.keep hb).mono hb.size⟩
theorem VB.nil (w : World) : VB w (.slice none 0 0) [] := ⟨none, 0, rfl, by simp, by omega, RB.nil _ _ _⟩
theorem VN.nil (w : World) : VN w (.slice none 0 0) [] := ⟨none, 0, rfl, by simp, by omega, RN.nil _ _ _⟩
theorem VB.mk {A : Option Addr} {c : Nat} (h : RB w w.heap.size A l) (h1 : l.length ≤ c) (h2 : c ≤ 140737488351232) : VB w (.slice A l.length c) l := ⟨A, c, rfl, h1, by omega, h⟩
theorem VN.mk {A : Option Addr} {c : Nat} (h : RN w w.heap.size A m) (h1 : m.length ≤ c) (h2 : c ≤ 17592186044160) : VN w (.slice A m.length c) m := ⟨A, c, rfl, h1, by omega, h⟩
theorem VB.form_n (h : VB w v l) : ∃ A n c, v = .slice A n c ∧ Hid (n = l.length) ∧ l.length ≤ c ∧ c ≤ 9223372036854775807 ∧ Hid (RB w w.heap.size A l) := by
  obtain ⟨A, c, rfl, h1, h2, h3⟩ := h
  exact ⟨A, _, c, rfl, Lib.hid rfl, h1, h2, Lib.hid h3⟩
theorem VN.form_n (h : VN w v m) : ∃ A n c, v = .slice A n c ∧ Hid (n = m.length) ∧ m.length ≤ c ∧ c ≤ 9223372036854775807 ∧ Hid (RN w w.heap.size A m) := by
  obtain ⟨A, c, rfl, h1, h2, h3⟩ := h
  exact ⟨A, _, c, rfl, Lib.hid rfl, h1, h2, Lib.hid h3⟩
theorem OB.vb (h : OB w base t v l) : VB w v l := h.form
theorem ON.vn (h : ON w base t v m) : VN w v m := by
  obtain ⟨A, n, c, rfl, hn, h1, h2, h3⟩ := h.form_n
  have := hn.out
  subst this
  exact ⟨A, c, rfl, h1, h2, h3.out⟩
end

/-- A 64 bit number with its sign. -/
def I64 (n : Int) : Prop := -9223372036854775808 ≤ n ∧ n ≤ 9223372036854775807

def nsEq (l m : List (BitVec 64)) : Bool := decide (l = m)
theorem nsEq_self (l : List (BitVec 64)) : nsEq l l = true := by simp [nsEq]
theorem take_snoc {α : Type} (l : List α) (k : Nat) (x : α) (h : l[k]? = some x) : l.take k ++ [x] = l.take (k + 1) := by
  rw [List.take_add_one, h]
  rfl
theorem made_names (w : World) {P : Program} {ts tb : TypeId} {i : TypeInfo} (hs : P.underlying ts = some (.slice tb)) (hi : P.info? tb = some i) (hz0 : i.zero = some (nm 0)) (hz1 : i.size = 8) (hz2 : i.bytes = 8) (k : Nat) (hk : k ≤ 70000) {X : Int} (hX : (k : Int) = X) :
    (Instr.makeSlice ts (.int .i64 X) (.int .i64 X)).run P w = .ok (.slice (some ⟨w.heap.size, 0, none⟩) k k) (w.alloc (.cells (madeCells (nmC 0) (k * 8)) tb)) := by
  subst hX
  have h := run_make (P := P) w ts tb i (nm 0) hs hi hz0 .i64 .i64 (k : Int) (k : Int) (by omega) (Int.le_refl _) (by rw [hz2]; omega) (by omega)
  have e : ((k : Nat) : Int).toNat = k := by omega
  rw [e, hz1] at h
  exact h
theorem made_at (k i j : Nat) (hi : i < k) (hj : j < 8) : (madeCells (nmC 0) (k * 8))[i * 8 + j]? = (nmC 0)[j]? := by
  have hlt : i * 8 + j < k * 8 := by omega
  have hm : (i * 8 + j) % 8 = j := by omega
  have hz : (nmC (0 : BitVec 64)).size = 8 := rfl
  unfold madeCells
  rw [Array.getElem?_map, Array.getElem?_range, if_pos hlt, Option.map_some, hz, hm]
  have hj' : j < (nmC (0 : BitVec 64)).size := hj
  rw [Array.getElem?_eq_getElem hj', getElem!_pos (nmC (0 : BitVec 64)) j hj']
theorem vn_made (w : World) (tn : TypeId) (k : Nat) (hk : k ≤ 9223372036854775807) : VN (w.alloc (.cells (madeCells (nmC 0) (k * 8)) tn)) (.slice (some ⟨w.heap.size, 0, none⟩) k k) (List.replicate k 0) :=
  ⟨some ⟨w.heap.size, 0, none⟩, k, by simp, by simp, hk, fun _ => ⟨w.heap.size, 0, rfl, by simp, fun i b hi j hj => by
    rw [List.getElem?_replicate] at hi
    split at hi
    · rename_i h
      cases hi
      rw [Nat.zero_add, (Is.new w tn _).cell (i * 8 + j), made_at k i j h hj]
    · cases hi⟩⟩

/-- The bytes of names, one after the other. -/
def nsB (l : List (BitVec 64)) : List UInt8 := l.flatMap nmL
theorem nsB_len (l : List (BitVec 64)) : (nsB l).length = l.length * 8 := by
  induction l with
  | nil => rfl
  | cons x l ih =>
    have : nsB (x :: l) = nmL x ++ nsB l := rfl
    rw [this, List.length_append, ih, nmL_len, List.length_cons]
    omega
theorem nsB_snoc (l : List (BitVec 64)) (k : Nat) (x : BitVec 64) (h : l[k]? = some x) : nsB (l.take k) ++ nmL x = nsB (l.take (k + 1)) := by
  rw [List.take_add_one, h]
  simp [nsB]
/-- A number, taken modulo a length. -/
theorem index_mod (t : Int) (n : Nat) (h : 0 < n) (hn : n ≤ 1000000) : ∃ k : Nat, k < n ∧ wrap64 ((IntKind.u64.wrap t).tmod (n : Int)) = (k : Int) := by
  have h1 : 0 ≤ IntKind.u64.wrap t := by rw [IntKind.wrap_u64]; omega
  rw [Int.tmod_eq_emod_of_nonneg h1]
  have h2 := Int.emod_nonneg (IntKind.u64.wrap t) (show (n : Int) ≠ 0 by omega)
  have h3 := Int.emod_lt_of_pos (IntKind.u64.wrap t) (show (0 : Int) < n by omega)
  refine ⟨(IntKind.u64.wrap t % (n : Int)).toNat, by omega, ?_⟩
  unfold wrap64
  omega

/-! ### Lists of names, cut -/
/-- l[:k] -/
theorem run_names_to {P : Program} {ts te : TypeId} {i : TypeInfo} (hs : P.underlying ts = some (.slice te)) (hi : P.info? te = some i) (_h1 : i.size = 8) (g off n c k : Nat) {X : Int} (hX : Hid (X = (k : Int))) (hk : k ≤ n) (hc : n ≤ c) (W : World) :
    (Instr.slice ts (.slice (some ⟨g, off, none⟩) n c) none (some (.int .i64 X)) none).run P W = .ok (.slice (some ⟨g, off, none⟩) k c) W := by
  have hx := hX.out
  subst hx
  have h3 : (k : Int) ≤ (c : Int) := by omega
  simp [Instr.slice, run_underlying hs, Instr.sliceBounds, run_sliceBound, sizeOf, typeInfo, hi, h3, add_plain]
/-- l[k:] -/
theorem run_names_from {P : Program} {ts te : TypeId} {i : TypeInfo} (hs : P.underlying ts = some (.slice te)) (hi : P.info? te = some i) (h1 : i.size = 8) (g off n c k : Nat) {X : Int} (hX : Hid (X = (k : Int))) (hk : k < n) (hc : n ≤ c) (W : World) :
    (Instr.slice ts (.slice (some ⟨g, off, none⟩) n c) (some (.int .i64 X)) none none).run P W = .ok (.slice (some ⟨g, off + k * 8, none⟩) (n - k) (c - k)) W := by
  have hx := hX.out
  subst hx
  have h3 : (k : Int) ≤ (n : Int) := by omega
  have h5 : ¬ c = k := by omega
  simp [Instr.slice, run_underlying hs, Instr.sliceBounds, run_sliceBound, sizeOf, typeInfo, hi, h1, h3, h5, add_plain]
theorem VN.take {w : World} {A : Option Addr} {c k : Nat} {l : List (BitVec 64)} (h : RN w w.heap.size A l) (hk : k ≤ l.length) (hc : l.length ≤ c) (hm : c ≤ 9223372036854775807) : VN w (.slice A k c) (l.take k) :=
  ⟨A, c, by rw [List.length_take, Nat.min_eq_left hk], by rw [List.length_take, Nat.min_eq_left hk]; omega, hm, h.take k⟩
theorem VN.drop {w : World} {g off c k : Nat} {l : List (BitVec 64)} (h : RN w w.heap.size (some ⟨g, off, none⟩) l) (hk : k ≤ l.length) (hc : l.length ≤ c) (hm : c ≤ 9223372036854775807) : VN w (.slice (some ⟨g, off + k * 8, none⟩) (l.length - k) (c - k)) (l.drop k) :=
  ⟨_, c - k, by rw [List.length_drop], by rw [List.length_drop]; omega, by omega, by have := h.drop k; simpa [add_plain] using this⟩
end Go.Fl
