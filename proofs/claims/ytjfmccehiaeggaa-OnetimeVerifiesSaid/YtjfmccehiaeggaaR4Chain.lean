/-
  forkledgerref1's one-time signatures: chain, start, ends, OnePublic.
-/
import Derived.Test.YtjfmccehiaeggaaR1Tag
import Derived.Test.YtjfmccehiaeggaaChain
import Derived.Test.YtjfmccehiaeggaaHeld
namespace Go.Proofs.Ytjfmccehiaeggaa
open Go.ChangeShapes Go.WideShapes Go.ChangeAt Go.RowKit Go.Fl

def boxW (w : World) (x : BitVec 64) : World := (w.alloc (.cells (nmC x) 23)).alloc (.cells #[B 0, B 0, B 0, B 0, B 0, B 0, B 0, B 0] 23)
theorem boxW_facts (w : World) (x : BitVec 64) : Is (boxW w x) w.heap.size 23 (nmC x) ∧ Is (boxW w x) (w.heap.size + 1) 23 #[B 0, B 0, B 0, B 0, B 0, B 0, B 0, B 0] ∧ Fr w 2 (boxW w x) :=
  ⟨(Is.new w _ _).old _, Is.newAt _ _ _ (by simp), ((Fr.refl w).alloc _).alloc _⟩

set_option maxHeartbeats 600000 in
theorem rchain_any (v : BitVec 64) (c : UInt8) (f t : Nat) (y : BitVec 64) (hft : f ≤ t) (ht : t ≤ 255) (hy : Hid (chainF v c f (t - f) = y)) (w : World) :
    Calls Try.prog 23 #[nm v, .int .i64 (ub c), .int .i64 (f : Int), .int .i64 (t : Int)] w fun e w' => e = .returned (nm y) ∧ Below w.heap.size w w' := by
  obtain ⟨hb, hz, hF⟩ := boxW_facts w v
  have clo := ub_lo c
  have chi := ub_hi c
  have t1 : (t : Int) ≤ 255 := by omega
  go_enter Try.func23, Try.ntmps23
  go_wp2
  change Code.wp _ _ _ _ (boxW w v)
  generalize boxW w v = W at *
  go_loopw [9] (fun p wr => ∃ k : Nat, ∃ x : BitVec 64, f + k ≤ t ∧ p = .int .i64 ((f + k : Nat) : Int) ∧ Hid (chainF v c f k = x) ∧ Is wr w.heap.size 23 (nmC x) ∧ Is wr (w.heap.size + 1) 23 #[B 0, B 0, B 0, B 0, B 0, B 0, B 0, B 0] ∧ Fr w 2 wr) (fun p _ => t - (intOf p).toNat)
  case atStart => exact ⟨0, v, by omega, by simp, Lib.hid rfl, hb, hz, hF⟩
  case round =>
    clear hb hz hF
    obtain ⟨k, x, hk, rfl, hx, hb, hz, hF⟩ := hrel
    obtain ⟨q, hq⟩ : ∃ q, f + k = q := ⟨_, rfl⟩
    rw [hq] at hk ⊢
    by_cases hlt : q < t
    · obtain ⟨x2, hx2⟩ : ∃ x2, stepF x c (UInt8.ofNat q) = x2 := ⟨_, rfl⟩
      have HC : Hid (chainF v c f (k + 1) = x2) := Lib.hid (by rw [chainF, hx.out, hq, hx2])
      have hpb := ub_ofNat q (by omega)
      obtain ⟨pb, hpb2⟩ : ∃ pb, UInt8.ofNat q = pb := ⟨_, rfl⟩
      rw [hpb2] at hpb hx2
      have HS : Hid (sumF (33 :: (nmL x ++ [c, pb])) = x2) := Lib.hid hx2
      have hL : Hid (11 = (33 :: (nmL x ++ [c, pb])).length) := Lib.hid rfl
      have s1 : (q : Int) < (t : Int) := by omega
      have q0 : (0 : Int) ≤ (q : Int) := by omega
      have HP := Lib.hid hpb
      have hwq : IntKind.u8.wrap (q : Int) = (q : Int) := by rw [IntKind.wrap_u8]; omega
      have hcv : (convert 3 5 (.int .i64 (q : Int))).run Try.prog wr = .ok (B pb) wr := by
        rw [show B pb = Value.int .u8 (q : Int) by rw [← hpb]]
        go_simp
      have HQ := Lib.hid hq
      have hbc := hb.cell
      clear hx2 hpb2 hpb hq hwq
      go_wp2_with fail
      refine (rsum_n (some ⟨wr.heap.size, 0, none⟩) (33 :: (nmL x ++ [c, pb])) 11 11 hL HS (by simp [nmL_len]) (by omega) (by simp [nmL_len]) (wr.alloc (.cells ((33 :: (nmL x ++ [c, pb])).map B).toArray 5)) (is_list_rb (Lib.hid (Is.new wr 5 _)) (by simp))).mono ?_
      rintro e w1 ⟨rfl, hb1⟩
      have hb2 := (hb.old (.cells ((33 :: (nmL x ++ [c, pb])).map B).toArray 5)).next hb1
      have hz2 := (hz.old (.cells ((33 :: (nmL x ++ [c, pb])).map B).toArray 5)).next hb1
      have hF2 := (hF.alloc (.cells ((33 :: (nmL x ++ [c, pb])).map B).toArray 5)).next hb1
      clear hbc hcv
      go_wp2_with (refine wpList_store_far rfl 23 (.tmp 4) (.tmp 37) rfl w.heap.size 23 _ (nmC x2) rfl rfl hb2 (nmC_size _) name_info (nmC_one _) ?_; intro w3 hb3 hbb hfar)
      go_roundw
      case rel => exact ⟨k + 1, x2, by have := HQ.out; omega, by have := HQ.out; go_num, HC, hb3, (hfar _ (by omega)).trans hz2, (hF2.step hbb (Nat.le_refl _)).le (by omega)⟩
      case measure => simp [intOf]; omega
    · obtain rfl : q = t := by omega
      have ek : k = q - f := by omega
      have exy : x = y := by rw [← hx.out, ← hy.out, ek]
      subst exy
      have hbc := hb.cell
      clear hq
      go_wp2_with (refine wpList_store_is rfl 23 (.tmp 8) (.tmp 38) rfl (w.heap.size + 1) 23 _ (nmC x) rfl rfl hz (nmC_size _) name_info (nmC_one _) ?_; intro w3 hz3 hbb)
      exact ret_is rfl (w.heap.size + 1) 23 _ rfl hz3 Try.underlying23 rfl name_info rfl ⟨rfl, hF.1.trans (hbb.mono (by omega))⟩

set_option maxHeartbeats 600000 in
theorem rstart_any (v : BitVec 64) (c : UInt8) (y : BitVec 64) (hy : Hid (startF v c = y)) (w : World) :
    Calls Try.prog 24 #[nm v, .int .i64 (ub c)] w fun e w' => e = .returned (nm y) ∧ Below w.heap.size w w' := by
  obtain ⟨hb, hz, hF⟩ := boxW_facts w v
  obtain ⟨i0, hi, hz0, hz1, hz2⟩ := info_parts info_byte
  have HI := Lib.hid hi
  have HZ0 := Lib.hid hz0
  have HZ1 := Lib.hid hz1
  have HZ2 := Lib.hid hz2
  have clo := ub_lo c
  have chi := ub_hi c
  have hsz : (boxW w v).heap.size = w.heap.size + 2 := by simp [boxW]
  have HY : Hid (sumF (32 :: (nmL v ++ [c])) = y) := hy
  clear hi hz0 hz1 hz2 hy
  go_enter Try.func24, Try.ntmps24
  have hob0 : OB ((boxW w v).alloc (.cells #[] 5)) (w.heap.size + 2) 5 (.slice (some ⟨w.heap.size + 2, 0, none⟩) 0 0) [] := by
    have := ob_empty (boxW w v) 5 (g := (boxW w v).heap.size) rfl
    rwa [hsz] at this
  have hF0 := hF.alloc (.cells #[] 5)
  have hb0 := hb.old (.cells #[] 5)
  have hz0 := hz.old (.cells #[] 5)
  go_wp2_with (first
    | (at_builtin; (refine wpList_append_ob rfl (.tmp 5) (.tmp 6) 37 rfl (w.heap.size + 2) 5 i0 Try.underlying37 HI.out HZ0.out HZ1.out HZ2.out (.slice (some ⟨w.heap.size + 2, 0, none⟩) 0 0) [] rfl hob0 _ (some ⟨w.heap.size, 0, none⟩) (nmL v) 8 8 rfl rfl (is_rb hb0 hb0.lt) (by simp [nmL_len]) (Nat.le_of_succ_le hF0.2) ?_); intro v1 w1 hob1 hg1 hat1; have hF1 := hF0.grown hg1 (fun k hk => by (have := hob0.own k hk; omega)); have hz1 := hz0.grown hg1 (fun k hk => by (have := hob0.own k hk; omega)))
    | (at_builtin; refine wpList_append_ob rfl (.tmp 7) (.tmp 10) 37 rfl (w.heap.size + 2) 5 i0 Try.underlying37 HI.out HZ0.out HZ1.out HZ2.out _ ([] ++ nmL v) rfl (hob1.keep ((Below.refl _ _).alloc (Nat.le_refl _) _)) _ (some ⟨w1.heap.size, 0, none⟩) [c] 1 1 rfl rfl (rb_build w1 5 c) (by simp [nmL_len]) (by (have := hF1.2; simp; omega)) ?_; intro v2 w2 hob2 hg2 hat2; have hF2 := (hF1.alloc _).grown hg2 (fun k hk => by (have := hob1.own k hk; omega)); have hz2 := (hz1.old _).grown hg2 (fun k hk => by (have := hob1.own k hk; omega)); have hob3 : OB w2 (w.heap.size + 2) 5 v2 (nmL v ++ [c]) := hob2; clear hob2; obtain ⟨A3, n3, c3, rfl, HN, hc3, hm3, HR3⟩ := hob3.form_n)
    | (go_at_call 29; refine (rtagged_n 32 A3 (nmL v ++ [c]) n3 c3 HN.out HY hc3 (by simp [nmL_len]) _ HR3.out).mono ?_; rintro e w3 ⟨rfl, hb3⟩; have hF3 := hF2.next hb3; have hz3 := hz2.next hb3)
    | (refine wpList_store_is rfl 23 (.tmp 4) (.tmp 12) rfl (w.heap.size + 1) 23 _ (nmC y) rfl rfl hz3 (nmC_size _) name_info (nmC_one _) ?_; intro w6 hz7 hb6))
  exact ret_is rfl (w.heap.size + 1) 23 _ rfl hz7 Try.underlying23 rfl name_info rfl ⟨rfl, hF3.1.trans (hb6.mono (by omega))⟩

set_option maxHeartbeats 600000 in
theorem rends_any (A : Option Addr) (l : List (BitVec 64)) (n c : Nat) (y : BitVec 64) (hn : l.length = n) (hl : l.length ≤ 1000) (_hc : l.length ≤ c) (hy : Hid (endsF l = y)) (w : World) (hr : RN w w.heap.size A l) :
    Calls Try.prog 25 #[.slice A n c] w fun e w' => e = .returned (nm y) ∧ Below w.heap.size w w' := by
  obtain ⟨i0, hi, hz0, hz1, hz2⟩ := info_parts info_byte
  have HI := Lib.hid hi
  have HZ0 := Lib.hid hz0
  have HZ1 := Lib.hid hz1
  have HZ2 := Lib.hid hz2
  have hz := Is.new w 23 #[B 0, B 0, B 0, B 0, B 0, B 0, B 0, B 0]
  have hF := (Fr.refl w).alloc (.cells #[B 0, B 0, B 0, B 0, B 0, B 0, B 0, B 0] 23)
  have HR := Lib.hid hr
  have HN := Lib.hid hn
  have HY : Hid (sumF (34 :: nsB l) = y) := hy
  have n1 : (n : Int) ≤ 1000 := by omega
  clear hi hz0 hz1 hz2 hr hn hy
  go_enter Try.func25, Try.ntmps25
  go_wp2
  change Code.wp _ _ _ _ (w.alloc (.cells #[B 0, B 0, B 0, B 0, B 0, B 0, B 0, B 0] 23))
  generalize w.alloc (.cells #[B 0, B 0, B 0, B 0, B 0, B 0, B 0, B 0] 23) = W at *
  go_loopw [3, 4] (fun v i wr => ∃ k : Nat, k ≤ n ∧ i = .int .i64 (k : Int) ∧ OB wr (w.heap.size + 1) 5 v (nsB (l.take k)) ∧ Is wr w.heap.size 23 #[B 0, B 0, B 0, B 0, B 0, B 0, B 0, B 0] ∧ Fr w 1 wr) (fun _ i _ => n - (intOf i).toNat)
  case atStart => exact ⟨0, Nat.zero_le _, rfl, ⟨rfl, .inl ⟨rfl, rfl⟩⟩, hz, hF⟩
  case round =>
    clear hz hF
    obtain ⟨k, hk, rfl, hob, hz, hF⟩ := hrel
    by_cases hlt : k < n
    · obtain ⟨x, hx⟩ : ∃ x, l[k]? = some x := ⟨_, List.getElem?_eq_getElem (by have := HN.out; omega)⟩
      obtain ⟨g, off, rfl, hg, -⟩ := HR.out.at_ hx
      have hrb : RB w w.heap.size (some ⟨g, off + k * 8, none⟩) (nmL x) := HR.out.rb rfl hx
      have HRB := Lib.hid (hrb.keep hF.1)
      have HSN := Lib.hid (nsB_snoc l k x hx)
      have hlen : (nsB (l.take k)).length + (nmL x).length ≤ 160000000000000 := by rw [nsB_len, nmL_len, List.length_take]; omega
      have HLEN := Lib.hid hlen
      have k1 : (k : Int) < (n : Int) := by omega
      clear hrb hlen hx
      go_wp2_with (first
        | (at_builtin; refine wpList_append_ob rfl (.tmp 11) (.tmp 15) 37 rfl (w.heap.size + 1) 5 i0 Try.underlying37 HI.out HZ0.out HZ1.out HZ2.out _ (nsB (l.take k)) rfl hob _ (some ⟨g, off + k * 8, none⟩) (nmL x) 8 8 rfl rfl HRB.out HLEN.out (by (have := hF.2; omega)) ?_; intro v2 w2 hob2 hg2 hat2; have hF2 := hF.grown hg2 (fun k hk => by (have := hob.own k hk; omega)); have hz2 := hz.grown hg2 (fun k hk => by (have := hob.own k hk; omega)))
        | fail)
      go_roundw
      case rel => exact ⟨k + 1, by omega, by go_num, by rw [HSN.out] at hob2; exact hob2, hz2, hF2⟩
      case measure => simp [intOf]; omega
    · obtain rfl : k = n := by omega
      have hob3 := hob
      rw [List.take_of_length_le (by have := HN.out; omega)] at hob3
      have hln : (nsB l).length ≤ 8000 := by rw [nsB_len]; omega
      have HLN := Lib.hid hln
      clear hob hln
      obtain ⟨A3, n3, c3, e3, HN3, hc3, hm3, HR3⟩ := hob3.form_n
      cases e3
      go_wp2_with (first
        | (go_at_call 29; refine (rtagged_n 34 A3 (nsB l) n3 c3 HN3.out HY hc3 (by (have := HLN.out; omega)) _ HR3.out).mono ?_; rintro e w3 ⟨rfl, hb3⟩; have hF3 := hF.next hb3; have hz3 := hz.next hb3)
        | (refine wpList_store_is rfl 23 (.tmp 2) (.tmp 18) rfl w.heap.size 23 _ (nmC y) rfl rfl hz3 (nmC_size _) name_info (nmC_one _) ?_; intro w6 hz7 hb6))
      exact ret_is rfl w.heap.size 23 _ rfl hz7 Try.underlying23 rfl name_info rfl ⟨rfl, hF3.1.trans hb6⟩

theorem rstart_i (v : BitVec 64) (I : Int) (c : UInt8) (hI : I = ub c) (y : BitVec 64) (hy : Hid (startF v c = y)) (w : World) :
    Calls Try.prog 24 #[nm v, .int .i64 I] w fun e w' => e = .returned (nm y) ∧ Below w.heap.size w w' := by
  subst hI
  exact rstart_any v c y hy w
theorem rchain_i (v : BitVec 64) (I : Int) (c : UInt8) (hI : I = ub c) (f t : Nat) (y : BitVec 64) (hft : f ≤ t) (ht : t ≤ 255) (hy : Hid (chainF v c f (t - f) = y)) (w : World) :
    Calls Try.prog 23 #[nm v, .int .i64 I, .int .i64 (f : Int), .int .i64 (t : Int)] w fun e w' => e = .returned (nm y) ∧ Below w.heap.size w w' := by
  subst hI
  exact rchain_any v c f t y hft ht hy w

theorem vals_snoc (s : BitVec 64) (d : List Nat) (k : Nat) (hk : k < 18) : (valsF s d).take k ++ [chainF (startF s (UInt8.ofNat k)) (UInt8.ofNat k) 0 (d.getD k 0)] = (valsF s d).take (k + 1) := by
  rw [List.take_add_one]
  congr 1
  simp [valsF, hk]
theorem vals_len (s : BitVec 64) (d : List Nat) : (valsF s d).length = 18 := by simp [valsF]

set_option maxHeartbeats 600000 in
theorem rpublic_any (s y : BitVec 64) (hy : Hid (publicF s = y)) (w : World) :
    Calls Try.prog 13 #[nm s] w fun e w' => e = .returned (nm y) ∧ Below w.heap.size w w' := by
  obtain ⟨hb, hz, hF⟩ := boxW_facts w s
  obtain ⟨i8, hi8, hz0, hz8, hz9⟩ := info_parts info_name
  have HI := Lib.hid hi8
  have HZ0 := Lib.hid hz0
  have HZ1 := Lib.hid hz8
  have HZ2 := Lib.hid hz9
  obtain ⟨L, hL⟩ : ∃ L, valsF s (List.replicate 18 15) = L := ⟨_, rfl⟩
  have HL := Lib.hid hL
  have hLL := vals_len s (List.replicate 18 15)
  rw [hL] at hLL
  have HY : Hid (endsF L = y) := Lib.hid (by rw [← hy.out, ← hL]; rfl)
  clear hi8 hz0 hz8 hz9 hL hy
  go_enter Try.func13, Try.ntmps13
  go_wp2
  change Code.wp _ _ _ _ (boxW w s)
  generalize boxW w s = W at *
  go_loopw [3, 4] (fun v i wr => ∃ k : Nat, k ≤ 18 ∧ i = .int .i64 (k : Int) ∧ ON wr (w.heap.size + 2) 23 v (L.take k) ∧ Is wr w.heap.size 23 (nmC s) ∧ Is wr (w.heap.size + 1) 23 #[B 0, B 0, B 0, B 0, B 0, B 0, B 0, B 0] ∧ Fr w 2 wr) (fun _ i _ => 18 - (intOf i).toNat)
  case atStart => exact ⟨0, Nat.zero_le _, rfl, ON.nil _ _ _, hb, hz, hF⟩
  case round =>
    clear hb hz hF
    obtain ⟨k, hk, rfl, hob, hb, hz, hF⟩ := hrel
    by_cases hlt : k < 18
    · obtain ⟨cb, hcb⟩ : ∃ cb, UInt8.ofNat k = cb := ⟨_, rfl⟩
      have hk8 := ub_ofNat k (by omega)
      rw [hcb] at hk8
      obtain ⟨x1, hx1⟩ : ∃ x1, startF s cb = x1 := ⟨_, rfl⟩
      obtain ⟨x2, hx2⟩ : ∃ x2, chainF x1 cb 0 15 = x2 := ⟨_, rfl⟩
      have hsn := vals_snoc s (List.replicate 18 15) k hlt
      rw [HL.out, hcb, hx1] at hsn
      have hgd : (List.replicate 18 15).getD k 0 = 15 := by rw [List.getD_eq_getElem?_getD, List.getElem?_replicate, if_pos hlt]; rfl
      rw [hgd, hx2] at hsn
      have HX1 := Lib.hid hx1
      have HX2 : Hid (chainF x1 cb 0 (15 - 0) = x2) := Lib.hid hx2
      have HSN := Lib.hid hsn
      have HK8 := Lib.hid hk8
      have s1 : (k : Int) < 18 := by omega
      have hbc := hb.cell
      clear hcb hx1 hx2 hsn hgd hk8
      go_wp2_with (first
        | (go_at_call 24; refine (rstart_i s _ cb HK8.out.symm x1 HX1 _).mono ?_; rintro e w1 ⟨rfl, hb1⟩; have hF1 := hF.next hb1; have hb2 := hb.next hb1; have hz1 := hz.next hb1; have hob1 := hob.keep hb1)
        | (go_at_call 23; refine (rchain_i x1 _ cb HK8.out.symm 0 15 x2 (by omega) (by omega) HX2 _).mono ?_; rintro e w2 ⟨rfl, hb3⟩; have hF2 := hF1.next hb3; have hb4 := hb2.next hb3; have hz2 := hz1.next hb3; have hob2 := hob1.keep hb3)
        | (at_builtin; refine wpList_append_on rfl (.tmp 9) (.tmp 15) 30 rfl (w.heap.size + 2) 23 i8 _ Try.underlying30 HI.out HZ0.out rfl HZ1.out HZ2.out _ (L.take k) rfl (hob2.keep ((Below.refl _ _).alloc (Nat.le_refl _) _)) _ ⟨w2.heap.size, 0, none⟩ 1 1 x2 rfl rfl (rn_build w2 23 x2) (by simp; omega) (by (have := hF2.2; simp; omega)) ?_; intro v3 w3 hob3 hg3 hat3; have hF3 := (hF2.alloc _).grown hg3 (fun q hq => by (have := hob2.own q hq; omega)); have hb5 := (hb4.old _).grown hg3 (fun q hq => by (have := hob2.own q hq; omega)); have hz3 := (hz2.old _).grown hg3 (fun q hq => by (have := hob2.own q hq; omega)))
        | fail)
      go_roundw
      case rel => exact ⟨k + 1, by omega, by go_num, by rw [HSN.out] at hob3; exact hob3, hb5, hz3, hF3.le (by omega)⟩
      case measure => simp [intOf]; omega
    · obtain rfl : k = 18 := by omega
      have hob3 := hob
      rw [List.take_of_length_le (by omega)] at hob3
      clear hob
      obtain ⟨A3, n3, c3, e3, HN3, hc3, hm3, HR3⟩ := hob3.form_n
      cases e3
      go_wp2_with (first
        | (go_at_call 25; refine (rends_any A3 L n3 c3 y HN3.out.symm (by omega) hc3 HY _ HR3.out).mono ?_; rintro e w3 ⟨rfl, hb3⟩; have hF3 := hF.next hb3; have hz3 := hz.next hb3)
        | (refine wpList_store_is rfl 23 (.tmp 2) (.tmp 18) rfl (w.heap.size + 1) 23 _ (nmC y) rfl rfl hz3 (nmC_size _) name_info (nmC_one _) ?_; intro w6 hz7 hb6))
      exact ret_is rfl (w.heap.size + 1) 23 _ rfl hz7 Try.underlying23 rfl name_info rfl ⟨rfl, hF3.1.trans (hb6.mono (by omega))⟩
end Go.Proofs.Ytjfmccehiaeggaa
