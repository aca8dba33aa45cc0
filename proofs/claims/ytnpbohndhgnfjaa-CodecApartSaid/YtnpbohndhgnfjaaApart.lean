/-
  Two rows of values of which one value is another have the same bytes only if that value is the same: on lists.
-/
import Derived.Test.YtnpbohndhgnfjaaRead2
namespace Go.Fl
open Go.ChangeShapes Go.WideShapes Go.ChangeAt Go.RowKit
theorem foldB_inj : ∀ (l m : List UInt8) (a b : Int), l.length = m.length → l.foldl (fun a b => a * 256 + ub b) a = m.foldl (fun a b => a * 256 + ub b) b → a = b ∧ l = m
  | [], [], a, b, _, h => ⟨h, rfl⟩
  | x :: l, y :: m, a, b, hl, h => by
    obtain ⟨h1, rfl⟩ := foldB_inj l m _ _ (by simpa using hl) h
    have h1 : a * 256 + ub x = b * 256 + ub y := h1
    have hx0 := ub_lo x; have hx1 := ub_hi x; have hy0 := ub_lo y; have hy1 := ub_hi y
    have e : ub x = ub y := by omega
    exact ⟨by omega, by rw [ub_inj e]⟩
  | [], _ :: _, _, _, hl, _ => by simp at hl
  | _ :: _, [], _, _, hl, _ => by simp at hl
theorem beI_inj (l m : List UInt8) (hl : l.length = m.length) (h : beI l = beI m) : l = m := (foldB_inj l m 0 0 hl h).2
theorem tailB_eq (x y : BitVec 64) (k : Nat) (hk : k ≤ 8) (h : x.toNat % 2 ^ (8 * k) = y.toNat % 2 ^ (8 * k)) : tailB x k = tailB y k :=
  beI_inj _ _ (by rw [tailB_len x k hk, tailB_len y k hk]) (by rw [beI_tailB x k hk, beI_tailB y k hk, h])
end Go.Fl
namespace Go.Proofs.Ytnpbohndhgnfjaa
open Go.ChangeShapes Go.WideShapes Go.ChangeAt Go.RowKit Go.Fl

theorem numberF_eq (n : Int) (v : BitVec 64) : numberF n v = uintV (tailB v (widthF n).toNat) := by
  have := widthF_range n
  rw [uintV_tailB _ _ (by omega)]
  rfl
theorem numberF_iff (n : Int) (v u : BitVec 64) : numberF n v = numberF n u ↔ tailB v (widthF n).toNat = tailB u (widthF n).toNat := by
  have hw := widthF_range n
  constructor
  · intro h
    refine tailB_eq _ _ _ (by omega) ?_
    have h2 := congrArg BitVec.toNat h
    unfold numberF at h2
    rw [BitVec.toNat_ofNat, BitVec.toNat_ofNat] at h2
    have h3 := Nat.mod_le v.toNat (2 ^ (8 * (widthF n).toNat))
    have h4 := Nat.mod_le u.toNat (2 ^ (8 * (widthF n).toNat))
    have h5 := v.isLt
    have h6 := u.isLt
    have e3 : v.toNat % 2 ^ (8 * (widthF n).toNat) % 2 ^ 64 = v.toNat % 2 ^ (8 * (widthF n).toNat) := Nat.mod_eq_of_lt (Nat.lt_of_le_of_lt h3 h5)
    have e4 : u.toNat % 2 ^ (8 * (widthF n).toNat) % 2 ^ 64 = u.toNat % 2 ^ (8 * (widthF n).toNat) := Nat.mod_eq_of_lt (Nat.lt_of_le_of_lt h4 h6)
    rw [e3, e4] at h2
    exact h2
  · intro h
    rw [numberF_eq, numberF_eq, h]
/-- Are two values of one kind and width the same? -/
def sameF (y x : Val) : Bool := if kindF x.1 = 0 then decide (numberF x.2.1 y.2.2.1 = numberF x.2.1 x.2.2.1) else if kindF x.1 = 1 then bsEq y.2.2.2.1 x.2.2.2.1 else nsEq y.2.2.2.2.1 x.2.2.2.2.1
theorem encF_iff (x y : Val) (hk : y.1 = x.1) (hw : y.2.1 = x.2.1) (hx : okF x = true) (hy : okF y = true) : encF x = encF y ↔ sameF y x = true := by
  unfold encF sameF
  unfold okF at hx hy
  rw [hk] at hy ⊢
  rw [hw]
  by_cases h0 : kindF x.1 = 0
  · simp only [h0, if_true, decide_eq_true_eq]
    rw [← numberF_iff]
    exact eq_comm
  · by_cases h1 : kindF x.1 = 1
    · simp only [h1, if_true, bsEq, decide_eq_true_eq] at hx hy ⊢
      simp only [show ¬ ((1 : Int) = 0) by omega, if_false, decide_eq_true_eq] at hx hy ⊢
      constructor
      · intro h
        have a := read_bytes [] x.2.2.2.1 [] (by simpa using hx)
        have b := read_bytes [] y.2.2.2.1 [] (by simpa using hy)
        rw [← h] at b
        exact (Prod.mk.inj (b.symm.trans a)).1
      · intro h
        rw [h]
    · simp only [h0, h1, if_false, nsEq, decide_eq_true_eq] at hx hy ⊢
      constructor
      · intro h
        have a := read_names [] [] x.2.2.2.2.1 (by simpa using hx)
        have b := read_names [] [] y.2.2.2.2.1 (by simpa using hy)
        rw [← h] at b
        exact (Prod.mk.inj (b.symm.trans a)).1
      · intro h
        rw [h]
/-- Two rows, of which one value is another. -/
theorem apart (L : List Val) (k : Nat) (x y : Val) (hx : L[k]? = some x) (hk : y.1 = x.1) (hw : y.2.1 = x.2.1) (h1 : (writeF [] L).2 = true) (h2 : (writeF [] (L.set k y)).2 = true) :
    bsEq (writeF [] L).1 (writeF [] (L.set k y)).1 = sameF y x := by
  have hkl : k < L.length := (List.getElem?_eq_some_iff.1 hx).1
  have ok1 : ∀ z ∈ L, okF z = true := fun z hz => by
    cases h : okF z
    · rw [writeF_bad [] L z hz h] at h1
      cases h1
    · rfl
  have ok2 : ∀ z ∈ L.set k y, okF z = true := fun z hz => by
    cases h : okF z
    · rw [writeF_bad [] _ z hz h] at h2
      cases h2
    · rfl
  have oy : okF y = true := ok2 y (List.mem_of_getElem? (List.getElem?_set_self hkl))
  have ox : okF x = true := ok1 x (List.mem_of_getElem? hx)
  rw [writeF_ok [] L ok1, writeF_ok [] _ ok2]
  have e1 : L = L.take k ++ ([x] ++ L.drop (k + 1)) := by rw [← List.append_assoc, take_snoc L k x hx, List.take_append_drop]
  have e2 : L.set k y = L.take k ++ ([y] ++ L.drop (k + 1)) := by
    rw [List.set_eq_take_append_cons_drop, if_pos hkl]
    rfl
  have f : ∀ z : Val, (L.take k ++ ([z] ++ L.drop (k + 1))).flatMap encF = (L.take k).flatMap encF ++ (encF z ++ (L.drop (k + 1)).flatMap encF) := fun z => by
    rw [List.flatMap_append, List.flatMap_append]
    simp
  have g1 : L.flatMap encF = (L.take k).flatMap encF ++ (encF x ++ (L.drop (k + 1)).flatMap encF) := by
    conv => lhs; rw [e1]
    exact f x
  rw [e2, f y, g1]
  simp only [List.nil_append]
  rw [Bool.eq_iff_iff, ← encF_iff x y hk hw ox oy]
  simp only [bsEq, decide_eq_true_eq]
  rw [List.append_cancel_left_eq, List.append_cancel_right_eq]
end Go.Proofs.Ytnpbohndhgnfjaa
