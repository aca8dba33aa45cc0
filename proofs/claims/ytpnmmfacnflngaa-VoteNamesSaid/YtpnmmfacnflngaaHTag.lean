/-
  hash.Tagged: the name of sumF of the tag followed by the bytes.
-/
import Derived.Test.YtpnmmfacnflngaaHAbs
namespace Go.Proofs.Ytpnmmfacnflngaa
open Go.ChangeShapes Go.WideShapes Go.ChangeAt Go.RowKit Go.Fl

set_option maxRecDepth 10000 in
set_option maxHeartbeats 1000000 in
theorem tagged_wide {x : BitVec 64} (t : UInt8) (A : Option Addr) (l : List UInt8) (c : Nat) (hx : Hid (sumF (t :: l) = x)) (hc : l.length ≤ c) (hl48 : l.length ≤ 281474976710656) (hm : c ≤ 9223372036854775807) (w : World) (hr : RB w w.heap.size A l) :
    Calls Try.prog 19 #[B t, .slice A l.length c] w fun e w' => e = .returned (nm x) ∧ Below w.heap.size w w' := by
  obtain ⟨cs, hcs⟩ : ∃ cs, cs = (l.take 7).map B := ⟨_, rfl⟩
  have hcl : cs.length = min 7 l.length := by subst hcs; simp
  have hc2 : cs.length ≤ 7 := by omega
  have hc3 : cs.length ≤ l.length := by omega
  have hc5 : 0 < cs.length → 0 < l.length := by omega
  have hc4 : cs.length = Nat.min l.length 7 := by rw [hcl]; exact Nat.min_comm _ _
  have HC4 := Lib.hid hc4
  clear hc4
  have HCL := Lib.hid hcl
  clear hcl
  have HCS := Lib.hid hcs
  clear hcs
  have h1 : ∀ v ∈ cs, v.oneCell' = true := by rw [HCS.out]; exact bytes_one _
  have H1 := Lib.hid h1
  clear h1
  have hz := (Is.new w 24 #[B 0, B 0, B 0, B 0, B 0, B 0, B 0, B 0]).old (.cells #[B t, B 0, B 0, B 0, B 0, B 0, B 0, B 0] 24)
  have hF : Fr w 2 ((w.alloc (.cells #[B 0, B 0, B 0, B 0, B 0, B 0, B 0, B 0] 24)).alloc (.cells #[B t, B 0, B 0, B 0, B 0, B 0, B 0, B 0] 24)) := ((Fr.refl w).alloc _).alloc _
  have hz1 : Is ((w.alloc (.cells #[B 0, B 0, B 0, B 0, B 0, B 0, B 0, B 0] 24)).alloc (.cells #[B t, B 0, B 0, B 0, B 0, B 0, B 0, B 0] 24)) (w.heap.size + 1) 24 [B t, B 0, B 0, B 0, B 0, B 0, B 0, B 0].toArray := Is.newAt _ _ _ (by simp)
  have hpos : 0 < cs.length → ∃ ad, A = some ad ∧ ∀ j v, cs[j]? = some v → ((w.alloc (.cells #[B 0, B 0, B 0, B 0, B 0, B 0, B 0, B 0] 24)).alloc (.cells #[B t, B 0, B 0, B 0, B 0, B 0, B 0, B 0] 24)).cell? (ad.add j) = some v := fun hp => by
    obtain ⟨g, off, rfl, _⟩ := hr (hc5 hp)
    refine ⟨_, rfl, fun j v hj => ?_⟩
    rw [HCS.out] at hj
    exact rb_news _ ((carry hr (Fr.refl w) hF).take 7) j v hj
  have HPOS := Lib.hid hpos
  clear hpos
  have hi1 : (cs.length : Int) ≤ (l.length : Int) := by omega
  have hd : l.length - cs.length = (l.drop 7).length := by have := HCL.out; simp; omega
  have HD := Lib.hid hd
  clear hd hc5
  have hrest : RB w w.heap.size (if c = cs.length then A else A.map (·.add cs.length)) (l.drop 7) := fun hp => by
    have h7 : cs.length = 7 := by have := HCL.out; simp at hp; omega
    rw [if_neg (by simp at hp; omega), h7]
    exact hr.drop 7 hp
  have HREST := Lib.hid hrest
  clear hrest
  generalize hA' : (if c = cs.length then A else A.map (·.add cs.length)) = A' at HREST
  have hsl : ∀ W : World, (Instr.slice 29 (.slice A l.length c) (some (.int .i64 cs.length)) none none).run Try.prog W = .ok (.slice A' (l.length - cs.length) (c - cs.length)) W := fun W => by
    obtain ⟨i, hi, _, hsz, _⟩ := info_parts info_byte
    rw [run_slice_from Try.underlying29 hi hsz A l.length c cs.length hc3 W, hA']
  clear hA'
  go_enter Try.func19, Try.ntmps19
  go_wp2_with (first
    | (refine wpList_copy_splice rfl (.tmp 11) (.tmp 12) 29 29 rfl 5 Try.underlying29 byte_info _ _ _ _ _ _ rfl rfl (w.heap.size + 1) 1 [B t, B 0, B 0, B 0, B 0, B 0, B 0, B 0] 24 hz1 cs HC4.out (fun hp => ⟨rfl, HPOS.out hp⟩) (by simp; omega) H1.out (w.heap.size + 1) _ (Below.refl _ _) (Nat.le_refl _) ?_; intro w2 HG hb2; have hz2 := tag_is HG HCS; have hF2 := hF.step hb2 (by omega); have hz3 := hz.keep hb2 (by omega); clear hb2)
    | fail)
  refine (absorb_start_n _ (nmL (wordOf (t :: l))) _ _ rfl (by simp [nmL_len]) (by omega) _ (is_rb hz2 (by have := hF2.2; omega))).mono ?_; rintro e w3 ⟨rfl, hb⟩; have hF3 := hF2.next hb; have hz4 := hz3.next hb; clear hb
  go_wp2_with fail
  refine (absorb_n _ _ (l.drop 7) _ _ HD.out (by (have := HD.out; omega)) (by omega) _ ((carry HREST.out (Fr.refl w) hF3).mono (by have := hF3.2; omega))).mono ?_; rintro e w4 ⟨rfl, hb⟩; have hF4 := hF3.next hb; have hz5 := hz4.next hb; clear hb
  go_wp2_with fail
  refine (finish_i _ _ _ (l.length + 1) (by omega) (by omega) _).mono ?_; rintro e w5 ⟨rfl, hb⟩; have hF5 := hF4.next hb; have hz6 := hz5.next hb; clear hb
  rw [sumF_tag, hx.out]
  go_wp2_with (refine wpList_store_is rfl 24 (.tmp 4) (.tmp 33) rfl w.heap.size 24 _ (nmC _) rfl rfl hz6 (nmC_size _) name_info (nmC_one _) ?_; intro w6 hz7 hb6)
  exact ret_is rfl w.heap.size 24 _ rfl hz7 Try.underlying24 rfl name_info rfl ⟨rfl, hF5.1.trans hb6⟩

theorem tagged_any {x : BitVec 64} (t : UInt8) (A : Option Addr) (l : List UInt8) (c : Nat) (hx : Hid (sumF (t :: l) = x)) (hc : l.length ≤ c) (hm : c ≤ 281474976710656) (w : World) (hr : RB w w.heap.size A l) :
    Calls Try.prog 19 #[B t, .slice A l.length c] w fun e w' => e = .returned (nm x) ∧ Below w.heap.size w w' := tagged_wide t A l c hx hc (by omega) (by omega) w hr
/-- The capacity as great as may be. -/
theorem tagged_nw {x : BitVec 64} (t : UInt8) (A : Option Addr) (l : List UInt8) (n c : Nat) (hn : n = l.length) (hx : Hid (sumF (t :: l) = x)) (hc : l.length ≤ c) (hl48 : l.length ≤ 281474976710656) (hm : c ≤ 9223372036854775807) (w : World) (hr : RB w w.heap.size A l) :
    Calls Try.prog 19 #[B t, .slice A n c] w fun e w' => e = .returned (nm x) ∧ Below w.heap.size w w' := by
  rw [hn]
  exact tagged_wide t A l c hx hc hl48 hm w hr
theorem tagged_n {x : BitVec 64} (t : UInt8) (A : Option Addr) (l : List UInt8) (n c : Nat) (hn : n = l.length) (hx : Hid (sumF (t :: l) = x)) (hc : l.length ≤ c) (hm : c ≤ 281474976710656) (w : World) (hr : RB w w.heap.size A l) :
    Calls Try.prog 19 #[B t, .slice A n c] w fun e w' => e = .returned (nm x) ∧ Below w.heap.size w w' := by
  rw [hn]
  exact tagged_any t A l c hx hc hm w hr
end Go.Proofs.Ytpnmmfacnflngaa
