/-
  The reference keeps chapter 4 ('refO').
-/
import Derived.Test.YtjfmccehiaeggaaR4Sign
import Derived.Test.YtjfmccehiaeggaaOneS
namespace Go.Proofs.Ytjfmccehiaeggaa
open Go.ChangeShapes Go.WideShapes Go.ChangeAt Go.RowKit Go.Fl

theorem refO : OneS Try.prog 23 3 10 13 16 18 where
  digits := fun w m => rdigits_any m w
  pub := fun w s y hy => rpublic_any s y hy w
  sign := fun w s m => rsign_any s m w
  recover := by
    rintro w m v sig r ⟨A, c, rfl, h1, h2, hr⟩ hl hr0
    have h := hr0.out
    unfold recP at h
    split at h
    · rename_i h18
      subst h
      rw [h18] at h1 ⊢
      exact rrecover_yes m A sig c _ h18 h1 h2 (Lib.hid rfl) w hr
    · rename_i h18
      subst h
      exact rrecover_no m A sig.length c h18 hl w
end Go.Proofs.Ytjfmccehiaeggaa
