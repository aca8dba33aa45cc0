/-
  The program's codec keeps chapter 2: its six functions as one contract.
-/
import Derived.Test.YtnpbohndhgnfjaaCodec4
namespace Go.Proofs.Ytnpbohndhgnfjaa
open Go.ChangeShapes Go.WideShapes Go.ChangeAt Go.RowKit Go.Fl

/-- The program's codec keeps chapter 2. -/
theorem codecS : CodecS Try.prog 5 55 12 9 15 17 19 21 where
  appUint := by
    rintro w v l x n ⟨A, c, rfl, h1, h2, hr⟩ hm hn
    exact appuint_any A l c x n hm hn w hr
  uint := by
    rintro w v l p n ⟨A, c, rfl, h1, h2, hr⟩ hm hp hn
    unfold uintF
    split
    · rename_i h
      obtain ⟨q, rfl⟩ : ∃ q : Nat, p = (q : Int) := ⟨p.toNat, by omega⟩
      obtain ⟨k, rfl⟩ : ∃ q : Nat, n = (q : Int) := ⟨n.toNat, by omega⟩
      refine (uint_yes A l c q k (by omega) (by omega) (by omega) h1 hm w hr).mono ?_
      rintro e w' ⟨rfl, rfl⟩
      exact ⟨rfl, Below.refl _ _⟩
    · refine (uint_no A l c p n (by omega) hm hp w).mono ?_
      rintro e w' ⟨rfl, rfl⟩
      exact ⟨rfl, Below.refl _ _⟩
  appBytes := by
    rintro w v u l m ⟨A, c, rfl, h1, h2, hr⟩ ⟨A2, c2, rfl, h3, h4, hr2⟩ hl hm
    unfold appBytesF
    split
    · exact appbytes_yes A A2 l m c c2 (by omega) hl w hr hr2
    · refine (appbytes_no A A2 l m c c2 (by omega) hm w).mono ?_
      rintro e w' ⟨rfl, rfl⟩
      exact ⟨_, rfl, ⟨rfl, .inl ⟨rfl, rfl⟩⟩, Below.refl _ _⟩
  bytes := by
    rintro w v l p ⟨A, c, rfl, h1, h2, hr⟩ hm hp
    unfold bytesF
    split
    · rename_i h
      obtain ⟨q, rfl⟩ : ∃ q : Nat, p = (q : Int) := ⟨p.toNat, by omega⟩
      refine (bytes_yes A l c q (by simp at h; omega) h1 hm w hr).mono ?_
      rintro e w' ⟨v, rfl, ho, hb⟩
      exact ⟨v, by simp, ho, hb⟩
    · rename_i h
      have fin : ∀ {e : Ending} {w' : World}, e = .returned (.tuple #[.slice none 0 0, .int .i64 0, .bool false]) ∧ w = w' → RetBA w 5 ([], 0, false) e w' := by
        rintro e w' ⟨rfl, rfl⟩
        exact ⟨_, rfl, ⟨rfl, .inl ⟨rfl, rfl⟩⟩, Below.refl _ _⟩
      by_cases h0 : p < 0 ∨ (l.length : Int) - 2 < p
      · exact (bytes_no1 A l c p h0 hm hp w).mono fun e w' h => fin h
      · obtain ⟨q, rfl⟩ : ∃ q : Nat, p = (q : Int) := ⟨p.toNat, by omega⟩
        exact (bytes_no2 A l c q (by omega) (by simp at h; omega) h1 hm w hr).mono fun e w' h => fin h
  appNames := by
    rintro w v u l m ⟨A, c, rfl, h1, h2, hr⟩ ⟨A2, c2, rfl, h3, h4, hr2⟩ hl hm
    unfold appNamesF
    split
    · exact appnames_yes A A2 l m c c2 (by omega) hl w hr hr2
    · refine (appnames_no A A2 l m c c2 (by omega) hm w).mono ?_
      rintro e w' ⟨rfl, rfl⟩
      exact ⟨_, rfl, ⟨rfl, .inl ⟨rfl, rfl⟩⟩, Below.refl _ _⟩
  names := by
    rintro w v l p ⟨A, c, rfl, h1, h2, hr⟩ hm hp
    unfold namesF
    split
    · rename_i h
      obtain ⟨q, rfl⟩ : ∃ q : Nat, p = (q : Int) := ⟨p.toNat, by omega⟩
      refine (names_yes A l c q (by simp at h; omega) (by omega) h1 hm w hr).mono ?_
      rintro e w' ⟨v, rfl, ho, hb⟩
      exact ⟨v, by simp, ho, hb⟩
    · rename_i h
      have fin : ∀ {e : Ending} {w' : World}, e = .returned (.tuple #[.slice none 0 0, .int .i64 0, .bool false]) ∧ w = w' → RetNA w 55 ([], 0, false) e w' := by
        rintro e w' ⟨rfl, rfl⟩
        exact ⟨_, rfl, ON.nil _ _ _, Below.refl _ _⟩
      by_cases h0 : p < 0 ∨ (l.length : Int) - 1 < p
      · exact (names_no1 A l c p h0 hm hp w).mono fun e w' h => fin h
      · obtain ⟨q, rfl⟩ : ∃ q : Nat, p = (q : Int) := ⟨p.toNat, by omega⟩
        exact (names_no2 A l c q (by omega) (by simp at h; omega) h1 hm w hr).mono fun e w' h => fin h
end Go.Proofs.Ytnpbohndhgnfjaa
