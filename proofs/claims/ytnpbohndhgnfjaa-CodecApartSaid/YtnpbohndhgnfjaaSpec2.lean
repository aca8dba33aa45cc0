/-
  What package codec promises, as six functions of lists ('appBytesF' and its like) and as a contract of six Go functions ('CodecS'): the same for the program's codec and for the reference.
-/
import Derived.Test.YtnpbohndhgnfjaaR1Names
namespace Go.Fl
open Go.ChangeShapes Go.WideShapes Go.ChangeAt Go.RowKit

/-- This value is a slice of these bytes. -/
def VB (w : World) (v : Value) (l : List UInt8) : Prop := ∃ A c, v = .slice A l.length c ∧ l.length ≤ c ∧ c ≤ 9223372036854775807 ∧ RB w w.heap.size A l
/-- This value is a slice of these names. -/
def VN (w : World) (v : Value) (l : List (BitVec 64)) : Prop := ∃ A c, v = .slice A l.length c ∧ l.length ≤ c ∧ c ≤ 9223372036854775807 ∧ RN w w.heap.size A l
section
variable {w w' : World} {v : Value} {l : List UInt8} {m : List (BitVec 64)} {base : Nat} {t : TypeId}
theorem VB.next (h : VB w v l) (hb : Below w.heap.size w w') : VB w' v l := by
  obtain ⟨A, c, rfl, h1, h2, h3⟩ := h
  exact ⟨A, c, rfl, h1, h2, (h3.keep hb).mono hb.size⟩
theorem VN.next (h : VN w v m) (hb : Below w.heap.size w w') : VN w' v m := by
  obtain ⟨A, c, rfl, h1, h2, h3⟩ := h
  exact ⟨A, c, rfl, h1, h2, (h3.keep hb).mono hb.size⟩
theorem VB.nil (w : World) : VB w (.slice none 0 0) [] := ⟨none, 0, rfl, by simp, by omega, RB.nil _ _ _⟩
theorem VN.nil (w : World) : VN w (.slice none 0 0) [] := ⟨none, 0, rfl, by simp, by omega, RN.nil _ _ _⟩
theorem VB.mk {A : Option Addr} {c : Nat} (h : RB w w.heap.size A l) (h1 : l.length ≤ c) (h2 : c ≤ 140737488351232) : VB w (.slice A l.length c) l := ⟨A, c, rfl, h1, by omega, h⟩
theorem VN.mk {A : Option Addr} {c : Nat} (h : RN w w.heap.size A m) (h1 : m.length ≤ c) (h2 : c ≤ 17592186044160) : VN w (.slice A m.length c) m := ⟨A, c, rfl, h1, by omega, h⟩
theorem VB.form_n (h : VB w v l) : ∃ A n c, v = .slice A n c ∧ Hid (n = l.length) ∧ l.length ≤ c ∧ c ≤ 9223372036854775807 ∧ Hid (RB w w.heap.size A l) := by
  obtain ⟨A, c, rfl, h1, h2, h3⟩ := h
  exact ⟨A, _, c, rfl, Lib.hid rfl, h1, h2, Lib.hid h3⟩
theorem VN.form_n (h : VN w v m) : ∃ A n c, v = .slice A n c ∧ Hid (n = m.length) ∧ m.length ≤ c ∧ c ≤ 9223372036854775807 ∧ Hid (RN w w.heap.size A m) := by
  obtain ⟨A, c, rfl, h1, h2, h3⟩ := h
  exact ⟨A, _, c, rfl, Lib.hid rfl, h1, h2, Lib.hid h3⟩
theorem OB.vb (h : OB w base t v l) : VB w v l := h.form
theorem ON.vn (h : ON w base t v m) : VN w v m := by
  obtain ⟨A, n, c, rfl, hn, h1, h2, h3⟩ := h.form_n
  have := hn.out
  subst this
  exact ⟨A, c, rfl, h1, h2, h3.out⟩
end

/-- A 64 bit number with its sign. -/
def I64 (n : Int) : Prop := -9223372036854775808 ≤ n ∧ n ≤ 9223372036854775807

def uintF (l : List UInt8) (p n : Int) : BitVec 64 × Bool :=
  if 1 ≤ n ∧ n ≤ 8 ∧ 0 ≤ p ∧ p + n ≤ (l.length : Int) then (uintV ((l.drop p.toNat).take n.toNat), true) else (0, false)
def appUintF (l : List UInt8) (x : BitVec 64) (n : Int) : List UInt8 := l ++ tailB x (clampW n)
def appBytesF (l m : List UInt8) : List UInt8 × Bool := if m.length ≤ 65535 then (l ++ tailB (ofn m.length) 2 ++ m, true) else ([], false)
def bytesF (l : List UInt8) (p : Int) : List UInt8 × Int × Bool :=
  if 0 ≤ p ∧ p + 2 ≤ (l.length : Int) ∧ p + 2 + (lenAt l p.toNat : Int) ≤ (l.length : Int) then ((l.drop (p.toNat + 2)).take (lenAt l p.toNat), p + 2 + (lenAt l p.toNat : Int), true) else ([], 0, false)
def appNamesF (l : List UInt8) (m : List (BitVec 64)) : List UInt8 × Bool := if m.length ≤ 255 then (l ++ tailB (ofn m.length) 1 ++ nsB m, true) else ([], false)
def namesF (l : List UInt8) (p : Int) : List (BitVec 64) × Int × Bool :=
  if 0 ≤ p ∧ p + 1 ≤ (l.length : Int) ∧ p + 1 + 8 * (cntAt l p.toNat : Int) ≤ (l.length : Int) then (namesAt l (p.toNat + 1) (cntAt l p.toNat), p + 1 + 8 * (cntAt l p.toNat : Int), true) else ([], 0, false)

def RetB (w : World) (tb : TypeId) (r : List UInt8 × Bool) (e : Ending) (w' : World) : Prop :=
  ∃ v, e = .returned (.tuple #[v, .bool r.2]) ∧ OB w' w.heap.size tb v r.1 ∧ Below w.heap.size w w'
def RetBA (w : World) (tb : TypeId) (r : List UInt8 × Int × Bool) (e : Ending) (w' : World) : Prop :=
  ∃ v, e = .returned (.tuple #[v, .int .i64 r.2.1, .bool r.2.2]) ∧ OB w' w.heap.size tb v r.1 ∧ Below w.heap.size w w'
def RetNA (w : World) (tn : TypeId) (r : List (BitVec 64) × Int × Bool) (e : Ending) (w' : World) : Prop :=
  ∃ v, e = .returned (.tuple #[v, .int .i64 r.2.1, .bool r.2.2]) ∧ ON w' w.heap.size tn v r.1 ∧ Below w.heap.size w w'

/-- Six functions that keep chapter 2. -/
structure CodecS (P : Program) (tb tn : TypeId) (fAU fU fAB fB fAN fN : FuncId) : Prop where
  appUint : ∀ (w : World) (v : Value) (l : List UInt8) (x : BitVec 64) (n : Int), VB w v l → l.length + 8 ≤ 160000000000000 → I64 n →
    Calls P fAU #[v, U x, .int .i64 n] w (RetOB w tb (appUintF l x n))
  uint : ∀ (w : World) (v : Value) (l : List UInt8) (p n : Int), VB w v l → l.length ≤ 281474976710656 → I64 p → I64 n →
    Calls P fU #[v, .int .i64 p, .int .i64 n] w fun e w' => e = .returned (.tuple #[U (uintF l p n).1, .bool (uintF l p n).2]) ∧ Below w.heap.size w w'
  appBytes : ∀ (w : World) (v u : Value) (l m : List UInt8), VB w v l → VB w u m → l.length + 65545 ≤ 160000000000000 → m.length ≤ 281474976710656 →
    Calls P fAB #[v, u] w (RetB w tb (appBytesF l m))
  bytes : ∀ (w : World) (v : Value) (l : List UInt8) (p : Int), VB w v l → l.length ≤ 281474976710656 → I64 p →
    Calls P fB #[v, .int .i64 p] w (RetBA w tb (bytesF l p))
  appNames : ∀ (w : World) (v u : Value) (l : List UInt8) (m : List (BitVec 64)), VB w v l → VN w u m → l.length + 65545 ≤ 160000000000000 → m.length ≤ 281474976710656 →
    Calls P fAN #[v, u] w (RetB w tb (appNamesF l m))
  names : ∀ (w : World) (v : Value) (l : List UInt8) (p : Int), VB w v l → l.length ≤ 281474976710656 → I64 p →
    Calls P fN #[v, .int .i64 p] w (RetNA w tn (namesF l p))

theorem namesF_len (l : List UInt8) (p : Int) : (namesF l p).1.length ≤ 255 := by
  unfold namesF
  split
  · rename_i h
    have := (cntAt_iu l p.toNat (by omega)).2
    simpa [namesAt_len] using this
  · simp
theorem appBytesF_len (l m : List UInt8) : (appBytesF l m).1.length ≤ l.length + 65537 := by
  unfold appBytesF
  split
  · have := tailB_len (ofn m.length) 2 (by omega)
    simp
    omega
  · simp
theorem appNamesF_len (l : List UInt8) (m : List (BitVec 64)) : (appNamesF l m).1.length ≤ l.length + 2041 := by
  unfold appNamesF
  split
  · have := tailB_len (ofn m.length) 1 (by omega)
    have := nsB_len m
    simp
    omega
  · simp
theorem appUintF_len (l : List UInt8) (x : BitVec 64) (n : Int) : (appUintF l x n).length ≤ l.length + 8 := by
  unfold appUintF
  have h := clampW_cases n
  have := tailB_len x (clampW n) (by omega)
  simp
  omega
theorem beI_cons (b : UInt8) (l : List UInt8) (a : Int) : (b :: l).foldl (fun a b => a * 256 + ub b) a = l.foldl (fun a b => a * 256 + ub b) (a * 256 + ub b) := rfl
/-- The last bytes of a number spell its rest. -/
theorem beI_tailB (x : BitVec 64) (k : Nat) (h : k ≤ 8) : beI (tailB x k) = ((x.toNat % 2 ^ (8 * k) : Nat) : Int) := by
  have hlt := x.isLt
  have hk : k = 0 ∨ k = 1 ∨ k = 2 ∨ k = 3 ∨ k = 4 ∨ k = 5 ∨ k = 6 ∨ k = 7 ∨ k = 8 := by omega
  rcases hk with rfl | rfl | rfl | rfl | rfl | rfl | rfl | rfl | rfl <;>
    (simp only [tailB, nmL, List.drop_zero, List.drop_succ_cons, Nat.sub_self, Nat.reduceSub, beI, List.foldl_cons, List.foldl_nil, ub_nb]; simp; try omega)

theorem uintV_tailB (x : BitVec 64) (k : Nat) (h : k ≤ 8) : uintV (tailB x k) = BitVec.ofNat 64 (x.toNat % 2 ^ (8 * k)) := by
  unfold uintV
  rw [beI_tailB x k h, BitVec.ofInt_natCast]
theorem uintV_nmL (x : BitVec 64) : uintV (nmL x) = x := by
  have h := uintV_tailB x 8 (Nat.le_refl _)
  have e : tailB x 8 = nmL x := rfl
  rw [e] at h
  rw [h]
  have := x.isLt
  apply BitVec.eq_of_toNat_eq
  rw [BitVec.toNat_ofNat]
  omega
/-- Eight bytes are the bytes of the name that they spell. -/
theorem nmL_uintV (s : List UInt8) (h : s.length = 8) : nmL (uintV s) = s := by
  obtain ⟨b0, b1, b2, b3, b4, b5, b6, b7, rfl⟩ := list8 s h
  obtain ⟨x, rfl, rfl, rfl, rfl, rfl, rfl, rfl, rfl⟩ := nm_of b0 b1 b2 b3 b4 b5 b6 b7
  exact congrArg nmL (uintV_nmL x)
end Go.Fl

namespace Go.Proofs.Ytnpbohndhgnfjaa
open Go.ChangeShapes Go.WideShapes Go.ChangeAt Go.RowKit Go.Fl

/-- The reference keeps chapter 2. -/
theorem refS : CodecS Try.prog 5 55 13 10 16 18 20 22 where
  appUint := by
    rintro w v l x n ⟨A, c, rfl, h1, h2, hr⟩ hm _
    exact rappuint_any A l c x n _ rfl hm w hr
  uint := by
    rintro w v l p n ⟨A, c, rfl, h1, h2, hr⟩ hm _ _
    unfold uintF
    split
    · rename_i h
      obtain ⟨q, rfl⟩ : ∃ q : Nat, p = (q : Int) := ⟨p.toNat, by omega⟩
      obtain ⟨k, rfl⟩ : ∃ q : Nat, n = (q : Int) := ⟨n.toNat, by omega⟩
      refine (ruint_yes A l c q k (by omega) (by omega) (by omega) hm w hr).mono ?_
      rintro e w' ⟨rfl, rfl⟩
      exact ⟨rfl, Below.refl _ _⟩
    · refine (ruint_no A l c p n (by omega) hm w).mono ?_
      rintro e w' ⟨rfl, rfl⟩
      exact ⟨rfl, Below.refl _ _⟩
  appBytes := by
    rintro w v u l m ⟨A, c, rfl, h1, h2, hr⟩ ⟨A2, c2, rfl, h3, h4, hr2⟩ hl hm
    unfold appBytesF
    split
    · exact rappbytes_yes A A2 l m c c2 (by omega) hl w hr hr2
    · refine (rappbytes_no A A2 l m c c2 (by omega) hm w).mono ?_
      rintro e w' ⟨rfl, rfl⟩
      exact ⟨_, rfl, ⟨rfl, .inl ⟨rfl, rfl⟩⟩, Below.refl _ _⟩
  bytes := by
    rintro w v l p ⟨A, c, rfl, h1, h2, hr⟩ hm _
    unfold bytesF
    split
    · rename_i h
      obtain ⟨q, rfl⟩ : ∃ q : Nat, p = (q : Int) := ⟨p.toNat, by omega⟩
      refine (rbytes_yes A l c q (by simp at h; omega) h1 hm w hr).mono ?_
      rintro e w' ⟨v, rfl, ho, hb⟩
      exact ⟨v, by simp, ho, hb⟩
    · rename_i h
      have fin : ∀ {e : Ending} {w' : World}, e = .returned (.tuple #[.slice none 0 0, .int .i64 0, .bool false]) ∧ w = w' → RetBA w 5 ([], 0, false) e w' := by
        rintro e w' ⟨rfl, rfl⟩
        exact ⟨_, rfl, ⟨rfl, .inl ⟨rfl, rfl⟩⟩, Below.refl _ _⟩
      by_cases h0 : p < 0 ∨ (l.length : Int) - 2 < p
      · exact (rbytes_no1 A l c p h0 hm w).mono fun e w' h => fin h
      · obtain ⟨q, rfl⟩ : ∃ q : Nat, p = (q : Int) := ⟨p.toNat, by omega⟩
        exact (rbytes_no2 A l c q (by omega) (by simp at h; omega) hm w hr).mono fun e w' h => fin h
  appNames := by
    rintro w v u l m ⟨A, c, rfl, h1, h2, hr⟩ ⟨A2, c2, rfl, h3, h4, hr2⟩ hl hm
    unfold appNamesF
    split
    · exact rappnames_yes A A2 l m c c2 (by omega) hl w hr hr2
    · refine (rappnames_no A A2 l m c c2 (by omega) hm w).mono ?_
      rintro e w' ⟨rfl, rfl⟩
      exact ⟨_, rfl, ⟨rfl, .inl ⟨rfl, rfl⟩⟩, Below.refl _ _⟩
  names := by
    rintro w v l p ⟨A, c, rfl, h1, h2, hr⟩ hm _
    unfold namesF
    split
    · rename_i h
      obtain ⟨q, rfl⟩ : ∃ q : Nat, p = (q : Int) := ⟨p.toNat, by omega⟩
      refine (rnames_yes A l c q (by simp at h; omega) (by omega) hm w hr).mono ?_
      rintro e w' ⟨v, rfl, ho, hb⟩
      exact ⟨v, by simp, ho, hb⟩
    · rename_i h
      have fin : ∀ {e : Ending} {w' : World}, e = .returned (.tuple #[.slice none 0 0, .int .i64 0, .bool false]) ∧ w = w' → RetNA w 55 ([], 0, false) e w' := by
        rintro e w' ⟨rfl, rfl⟩
        exact ⟨_, rfl, ON.nil _ _ _, Below.refl _ _⟩
      by_cases h0 : p < 0 ∨ (l.length : Int) - 1 < p
      · exact (rnames_no1 A l c p h0 hm w).mono fun e w' h => fin h
      · obtain ⟨q, rfl⟩ : ∃ q : Nat, p = (q : Int) := ⟨p.toNat, by omega⟩
        exact (rnames_no2 A l c q (by omega) (by simp at h; omega) hm w hr).mono fun e w' h => fin h
end Go.Proofs.Ytnpbohndhgnfjaa
