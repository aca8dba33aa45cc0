/-
  The developers' onetime keeps chapter 4 ('oneO').
-/
import Derived.Test.YtjfmccehiaeggaaOne3
namespace Go.Proofs.Ytjfmccehiaeggaa
open Go.ChangeShapes Go.WideShapes Go.ChangeAt Go.RowKit Go.Fl

/-- The program's onetime keeps chapter 4. -/
theorem oneO : OneS Try.prog 23 3 9 12 15 17 where
  digits := fun w m => odigits_any m w
  pub := fun w s y hy => opublic_any s y hy w
  sign := fun w s m => osign_any s m w
  recover := by
    rintro w m v sig r ⟨A, c, rfl, h1, h2, hr⟩ hl hr0
    have h := hr0.out
    unfold recP at h
    split at h
    · rename_i h18
      subst h
      rw [h18] at h1 ⊢
      exact orecover_yes m A sig c _ h18 h1 h2 (Lib.hid rfl) w hr
    · rename_i h18
      subst h
      exact orecover_no m A sig.length c h18 hl w
end Go.Proofs.Ytjfmccehiaeggaa
