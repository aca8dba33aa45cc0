/-
  The words of a byte string, one after the other, in the program's hash: 'absorbF', for every slice of bytes.
-/
import Derived.Test.YtfmhfkmigfhleaaSum
import Derived.Lib.Hide
namespace Go.Proofs.Ytfmhfkmigfhleaa
open Go.ChangeShapes Go.WideShapes Go.ChangeAt Go.RowKit Go.Fl

attribute [local go_sem] bits_xor_iu bits_xor_iu_nat

def lenOf : Value → Nat
  | .slice _ n _ => n
  | _ => 0

theorem byte_info : (Try.prog.info? 5).map (·.size) = some 1 := by kernel_rfl

theorem word_is {w : World} {g : Nat} {t : TypeId} {cs : List Value} {l : List UInt8} (HG : Hid (w.heap[g]? = some (.cells (splice (List.replicate 8 (B 0)) 0 cs).toArray t (0, 0)))) (HC : Hid (cs = (l.take 8).map B)) : Is w g t (nmC (wordOf l)) := by
  have h := HG.out
  rw [HC.out, splice_word] at h
  exact h

theorem rest_is {w : World} {n g off k c : Nat} {l : List UInt8} (h : RB w n (some ⟨g, off, none⟩) l) (hk : k = min 8 l.length) (_hc : ¬ c = k) : RB w n (some ⟨g, off + k, none⟩) (l.drop 8) := fun hp => by
  simp at hp
  have h8 : k = 8 := by omega
  obtain ⟨g', off', e, hg, hc⟩ := h (by omega)
  simp at e
  obtain ⟨rfl, rfl⟩ := e
  refine ⟨g, off + k, rfl, hg, fun i b hi => ?_⟩
  rw [List.getElem?_drop] at hi
  have := hc (8 + i) b hi
  rw [h8, Nat.add_assoc]
  exact this
theorem rest_nil {w : World} {n g off k : Nat} {l : List UInt8} (_h : RB w n (some ⟨g, off, none⟩) l) (hk : k = min 8 l.length) (hc : l.length ≤ k) : RB w n (some ⟨g, off, none⟩) (l.drop 8) := fun hp => by
  simp at hp
  omega
theorem carry {w wr w3 : World} {n m : Nat} {A : Option Addr} {l : List UInt8} (h : RB wr w.heap.size A l) (h1 : Fr w n wr) (h3 : Fr w m w3) : RB w3 w.heap.size A l := fun hp => by
  obtain ⟨g, off, rfl, hg, hc⟩ := h hp
  exact ⟨g, off, rfl, hg, fun i b hi => (h3.1.cell hg).trans ((h1.1.cell hg).symm.trans (hc i b hi))⟩
theorem roundS_fst (t : St) (v : BitVec 64) : mixX (mixX (t.1 ^^^ v) t.2) (mixY (t.1 ^^^ v) t.2) = (roundS t v).1 := rfl
theorem roundS_snd (t : St) (v : BitVec 64) : mixY (mixX (t.1 ^^^ v) t.2) (mixY (t.1 ^^^ v) t.2) = (roundS t v).2 := rfl
theorem slice_eq {A : Option Addr} {a b c d : Nat} (h : a = b) (k : c = d) : Value.slice A a c = Value.slice A b d := by rw [h, k]

set_option maxHeartbeats 1000000 in
theorem absorb_any (s : St) (A : Option Addr) (l : List UInt8) (c : Nat) (hc : l.length ≤ c) (hm : c ≤ 9223372036854775807) (w : World) (hr : RB w w.heap.size A l) :
    Calls Try.prog 21 #[U s.1, U s.2, .slice A l.length c] w fun e w' => e = .returned (.tuple #[U (absorbF s l).1, U (absorbF s l).2]) ∧ Below w.heap.size w w' := by
  go_enter Try.func21, Try.ntmps21
  go_wp2
  go_loopw [0, 1, 2] (fun x y b wr => ∃ (t : St) (A' : Option Addr) (l' : List UInt8) (c' : Nat), x = U t.1 ∧ y = U t.2 ∧ b = .slice A' l'.length c' ∧ l'.length ≤ c' ∧ c' ≤ 9223372036854775807 ∧ RB wr w.heap.size A' l' ∧ Hid (absorbF t l' = absorbF s l) ∧ Fr w 0 wr) (fun _ _ b _ => lenOf b)
  case atStart => exact ⟨s, A, l, c, rfl, rfl, rfl, hc, hm, hr, rfl, Fr.refl w⟩
  case round =>
    obtain ⟨t, A', l', c', rfl, rfl, rfl, hlc, hcm, hrb, habs, hF⟩ := hrel
    by_cases hl : 0 < l'.length
    · obtain ⟨g, off, rfl, hg, hcell⟩ := hrb hl
      obtain ⟨cs, hcs⟩ : ∃ cs, cs = (l'.take 8).map B := ⟨_, rfl⟩
      have hcl : cs.length = min 8 l'.length := by subst hcs; simp
      have hc1 : 0 < cs.length := by omega
      have hc2 : cs.length ≤ 8 := by omega
      have hc3 : cs.length ≤ l'.length := by omega
      have hc4 : cs.length = Nat.min l'.length 8 := by rw [hcl]; exact Nat.min_comm _ _
      have HC4 := Lib.hid hc4
      clear hc4
      have HCL := Lib.hid hcl
      clear hcl
      have HCS := Lib.hid hcs
      have hz : Is (wr.alloc (.cells #[B 0, B 0, B 0, B 0, B 0, B 0, B 0, B 0] 24)) wr.heap.size 24 (List.replicate 8 (B 0)).toArray := Is.new _ _ _
      have hF1 : Fr w 1 (wr.alloc (.cells #[B 0, B 0, B 0, B 0, B 0, B 0, B 0, B 0] 24)) := hF.alloc _
      have hpos : ∀ j v, cs[j]? = some v → (wr.alloc (.cells #[B 0, B 0, B 0, B 0, B 0, B 0, B 0, B 0] 24)).cell? ((⟨g, off, none⟩ : Addr).add j) = some v := by
        intro j v hj
        rw [HCS.out, List.getElem?_map, List.getElem?_take] at hj
        rw [add_plain]
        split at hj
        · obtain ⟨b, hb, rfl⟩ : ∃ b, l'[j]? = some b ∧ B b = v := by simpa using hj
          exact (World.cell?_of_block (w := wr) (Below.heap_alloc wr _ g (by have := hF.2; omega))).trans (hcell j b hb)
        · simp at hj
      have HPOS := Lib.hid hpos
      clear hpos
      clear hcs
      have h1 : ∀ v ∈ cs, v.oneCell' = true := by
        intro v hv
        rw [HCS.out] at hv
        rw [List.mem_map] at hv
        obtain ⟨b, _, hbv⟩ := hv
        rw [← hbv]
        rfl
      have H1 := Lib.hid h1
      clear h1
      have hi1 : (cs.length : Int) ≤ (l'.length : Int) := by omega
      have hd : l'.length - cs.length = (l'.drop 8).length := by have := HCL.out; simp; omega
      have HD := Lib.hid hd
      clear hd
      by_cases hcap : c' = cs.length
      all_goals go_wp2_with (first
          | (refine wpList_copy_splice rfl (.tmp 13) (.tmp 14) 22 22 rfl 5 Try.underlying22 byte_info _ _ _ _ _ _ rfl rfl wr.heap.size 0 (List.replicate 8 (B 0)) 24 hz cs HC4.out (fun _ => ⟨rfl, _, rfl, HPOS.out⟩) (by simp; omega) H1.out wr.heap.size _ (Below.refl _ _) (Nat.le_refl _) ?_; intro w2 HG hb2; have hz2 := word_is HG HCS; have hA := hz2.cell; have hF2 := hF1.step hb2 (by have := hF.2; omega))
          | (go_at_call 16; refine (number_any _ _).mono ?_; rintro e w3 ⟨rfl, hb3⟩; have hF3 := hF2.next hb3; clear hb3)
          | (go_at_call 25; refine (mix_any _ _ _).mono ?_; rintro e w' ⟨rfl, rfl⟩))
      · go_roundw
        case rel => exact ⟨roundS t (wordOf l'), _, l'.drop 8, 0, by rw [roundS_fst], by rw [roundS_snd], slice_eq HD.out rfl, by (have := HD.out; omega), by omega, rest_nil (carry hrb hF hF3) HCL.out (by omega), by (have := habs.out; rw [absorbF_cons hl] at this; exact this), hF3.le (by omega)⟩
        case measure => simp [lenOf]; omega
      · go_roundw
        case rel => exact ⟨roundS t (wordOf l'), _, l'.drop 8, c' - cs.length, by rw [roundS_fst], by rw [roundS_snd], slice_eq HD.out rfl, by (have := HD.out; omega), by omega, rest_is (c := c') (carry hrb hF hF3) HCL.out hcap, by (have := habs.out; rw [absorbF_cons hl] at this; exact this), hF3.le (by omega)⟩
        case measure => simp [lenOf]; omega
    · obtain rfl : l' = [] := List.eq_nil_of_length_eq_zero (by omega)
      have ha := habs.out
      rw [absorbF_nil] at ha
      have HA := Lib.hid ha
      clear ha habs
      go_wp2
      go_ret2
      exact ⟨by rw [← HA.out]; rfl, hF.1⟩
end Go.Proofs.Ytfmhfkmigfhleaa
