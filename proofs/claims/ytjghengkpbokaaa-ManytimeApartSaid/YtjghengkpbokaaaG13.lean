/-
  3 texts in one file: R5Nam, Copy, Md2.
-/
import Derived.Laws.CopyRow
import Derived.Deep.DeepCutAuto
import Derived.Test.YtjghengkpbokaaaG3
import Derived.Test.YtjghengkpbokaaaG11
import Derived.Test.YtjghengkpbokaaaG12

/-
  forkledgerref1's many-time signatures: Public, names, list.
-/
namespace Go.Proofs.Ytjghengkpbokaaa
open Go.ChangeShapes Go.WideShapes Go.ChangeAt Go.RowKit Go.Fl

attribute [local go_sem] equal_nm eqGuard_nm

theorem rmpub_yes (s : BitVec 64) (n : Nat) (N : Int) (hN : N = (n : Int)) (h1 : 1 ≤ n) (h2 : n ≤ 2) (y : BitVec 64) (hy : Hid (treeF s n 0 = y)) (w : World) :
    Calls Try.prog 18 #[nm s, .int .i64 N] w fun e w' => e = .returned (nm y) ∧ Below w.heap.size w w' := by
  subst hN
  obtain ⟨hb, hz, hF⟩ := boxW_facts w s
  obtain ⟨L, hL⟩ : ∃ L, leavesF s n 0 = L := ⟨_, rfl⟩
  have hLL := leavesF_len s n 0
  rw [hL] at hLL
  have HL := Lib.hid hL
  have HY : Hid (rootF L = y) := Lib.hid (by rw [← hy.out, ← hL]; rfl)
  have s1 : (1 : Int) ≤ (n : Int) := by omega
  have s2 : (n : Int) ≤ 2 := by omega
  have hbc := hb.cell
  clear hL hy
  go_enter Try.func18, Try.ntmps18
  go_wp2_with (first
    | (go_at_call 28; refine (rleaves_any s n 0 _ _ rfl rfl (by omega) (by omega) L HL (boxW w s)).mono ?_; rintro e w1 ⟨v1, rfl, ho1, hb1⟩; have hF1 := hF.next hb1; have hz1 := hz.next hb1; obtain ⟨A3, n3, c3, rfl, HN3, hc3, hm3, HR3⟩ := ON.form_n ho1)
    | (go_at_call 32; refine (rroot_any n3 A3 L c3 y HN3.out.symm HY hc3 hm3 _ HR3.out).mono ?_; rintro e w2 ⟨rfl, hb2⟩; have hF2 := hF1.next hb2; have hz2 := hz1.next hb2)
    | (refine wpList_store_is rfl 30 (.tmp 4) (.tmp 15) rfl (w.heap.size + 1) 30 _ (nmC y) rfl rfl hz2 (nmC_size _) name_info (nmC_one _) ?_; intro w6 hz7 hb6))
  exact ret_is rfl (w.heap.size + 1) 30 _ rfl hz7 Try.underlying30 rfl name_info rfl ⟨rfl, hF2.1.trans (hb6.mono (by omega))⟩

theorem rmpub_no (s : BitVec 64) (N : Int) (hN : N < 1 ∨ 2 < N) (w : World) :
    Calls Try.prog 18 #[nm s, .int .i64 N] w fun e w' => e = .returned (nm 0) ∧ Below w.heap.size w w' := by
  obtain ⟨hb, hz, hF⟩ := boxW_facts w s
  by_cases h1 : N < 1
  · go_enter Try.func18, Try.ntmps18
    go_wp2_with (refine wpList_store_is rfl 30 (.tmp 4) (.tmp 11) rfl (w.heap.size + 1) 30 _ (nmC 0) rfl rfl hz (nmC_size _) name_info (nmC_one _) ?_; intro w6 hz7 hb6)
    exact ret_is rfl (w.heap.size + 1) 30 _ rfl hz7 Try.underlying30 rfl name_info rfl ⟨rfl, hF.1.trans (hb6.mono (by omega))⟩
  · have h2 : 2 < N := by omega
    clear hN
    go_enter Try.func18, Try.ntmps18
    go_wp2_with (refine wpList_store_is rfl 30 (.tmp 4) (.tmp 11) rfl (w.heap.size + 1) 30 _ (nmC 0) rfl rfl hz (nmC_size _) name_info (nmC_one _) ?_; intro w6 hz7 hb6)
    exact ret_is rfl (w.heap.size + 1) 30 _ rfl hz7 Try.underlying30 rfl name_info rfl ⟨rfl, hF.1.trans (hb6.mono (by omega))⟩

theorem rmpub_any (w : World) (s : BitVec 64) (N : Int) (y : BitVec 64) (hy : Hid (mpubF s N = y)) :
    Calls Try.prog 18 #[nm s, .int .i64 N] w fun e w' => e = .returned (nm y) ∧ Below w.heap.size w w' := by
  by_cases h1 : N = 1
  · subst h1
    exact rmpub_yes s 1 1 rfl (by omega) (by omega) y (Lib.hid (by rw [← hy.out, mpub_one])) w
  · by_cases h2 : N = 2
    · subst h2
      exact rmpub_yes s 2 2 rfl (by omega) (by omega) y (Lib.hid (by rw [← hy.out, mpub_two])) w
    · have e : y = 0 := by rw [← hy.out]; unfold mpubF; rw [if_neg h1, if_neg h2]
      subst e
      exact rmpub_no s N (by omega) w

/-- append of eight bytes onto bytes of the call's own, and where the result lies. -/
theorem wpList_append_obw {w : World} {ops : Array Oper} {rest : List Oper} {o : Oper} {a : Act} {Q : Exit → Act → World → Prop} (hgd : o.guard = none) (s x : Operand) (t : TypeId)
    (ho : o.op = .call { callee := .builtin .append, args := #[s, x], argTypes := #[t, t] })
    (base : Nat) (e : TypeId) (i : TypeInfo) (z : Value) (ht : Try.prog.underlying t = some (.slice e)) (hi : Try.prog.info? e = some i) (hz : i.zero = some z) (hzs : z.cells.size = 1) (hs : i.size = 1) (hb : i.bytes = 1)
    (v : Value) (l : List UInt8) (hv : a.eval s = v) (h : OB w base e v l) (n : Nat) (ad : Addr) (k : List UInt8) (m c : Nat) (hx : a.eval x = .slice (some ad) m c) (hk : k.length = m) (hr : RB w n (some ad) k) (hm : l.length + k.length ≤ 1000000) (hbase : base ≤ w.heap.size)
    (hK : ∀ v' w', OB w' base e v' (l ++ k) → w.grownBy w' v.ownBlock → (v'.ownBlock = v.ownBlock ∨ v'.ownBlock = some w.heap.size) → wpList Try.prog ops Q rest (a.put o.dst v') w') : wpList Try.prog ops Q (o :: rest) a w := by
  subst hk
  refine wpList_append_own_at w hgd s x t ho base e i z 1 1 ht hi hz hs hb hzs (by omega) v l.length (l.map B) hv h ad k.length c (k.map B) hx (by simp) (rb_news w hr) (bytes_one _) (by simp only [maxLen]; omega) (by omega) hbase ?_
  intro v' w' h1 h2 _ h4
  refine hK v' w' ?_ h2 h4
  unfold OB
  rw [List.length_append, List.map_append]
  exact h1

set_option maxRecDepth 10000 in
set_option maxHeartbeats 600000 in
/-- names: bytes of the call's own, followed by the names, which lie elsewhere. -/
theorem rnames_any (v : Value) (b : List UInt8) (A : Option Addr) (l : List (BitVec 64)) (n c base : Nat) (hn : l.length = n) (hl : l.length ≤ 1000) (hbl : b.length ≤ 100000) (w : World) (hbase : base ≤ w.heap.size) (hob0 : OB w base 5 v b) (hr : RN w w.heap.size A l)
    (hne : ∀ g off, A = some ⟨g, off, none⟩ → v.ownBlock ≠ some g) :
    Calls Try.prog 29 #[v, .slice A n c] w fun e w' => ∃ v', e = .returned v' ∧ OB w' base 5 v' (b ++ nsB l) ∧ Below base w w' ∧ (∀ k, k < w.heap.size → v.ownBlock ≠ some k → w'.heap[k]? = w.heap[k]?) ∧ (v'.ownBlock = v.ownBlock ∨ ∃ k, v'.ownBlock = some k ∧ w.heap.size ≤ k) := by
  obtain ⟨i0, hi, hz0, hz1, hz2⟩ := info_parts info_byte
  have HI := Lib.hid hi
  have HZ0 := Lib.hid hz0
  have HZ1 := Lib.hid hz1
  have HZ2 := Lib.hid hz2
  have HR := Lib.hid hr
  have HN := Lib.hid hn
  have n1 : (n : Int) ≤ 1000 := by omega
  have hl0 : b ++ nsB (l.take 0) = b := by simp [nsB]
  clear hi hz0 hz1 hz2 hr hn
  go_enter Try.func29, Try.ntmps29
  go_wp2
  go_loopw [0, 5] (fun u i wr => ∃ k : Nat, k ≤ n ∧ i = .int .i64 (k : Int) ∧ OB wr base 5 u (b ++ nsB (l.take k)) ∧ Below base w wr ∧ (∀ j, j < w.heap.size → v.ownBlock ≠ some j → wr.heap[j]? = w.heap[j]?) ∧ (u.ownBlock = v.ownBlock ∨ ∃ j, u.ownBlock = some j ∧ w.heap.size ≤ j)) (fun _ i _ => n - (intOf i).toNat)
  case atStart => exact ⟨0, Nat.zero_le _, rfl, by rw [hl0]; exact hob0, Below.refl _ _, fun _ _ _ => rfl, Or.inl rfl⟩
  case round =>
    clear hob0
    obtain ⟨k, hk, rfl, hob, hB, hold, hown⟩ := hrel
    have hsz := hB.size
    by_cases hlt : k < n
    · obtain ⟨x, hx⟩ : ∃ x, l[k]? = some x := ⟨_, List.getElem?_eq_getElem (by have := HN.out; omega)⟩
      obtain ⟨g, off, rfl, hg, -⟩ := HR.out.at_ hx
      have hgo : wr.heap[g]? = w.heap[g]? := hold g hg (hne g off rfl)
      have hrw : RN wr w.heap.size (some ⟨g, off, none⟩) l := rn_far (_gp := 0) HR.out (Nat.le_refl _) (fun g' off' e _ => by injection e with e; injection e with e1 e2; subst e1; exact hgo)
      have HRB := Lib.hid (hrw.rb rfl hx)
      have HSN := Lib.hid (nsB_snoc l k x hx)
      have hlen : (b ++ nsB (l.take k)).length + (nmL x).length ≤ 1000000 := by rw [List.length_append, nsB_len, nmL_len, List.length_take]; omega
      have HLEN := Lib.hid hlen
      have HNE := Lib.hid hne
      have HOLD := Lib.hid hold
      have k1 : (k : Int) < (n : Int) := by omega
      clear hrw hlen hx hgo hne hold
      go_wp2_with (first
        | (at_builtin; refine wpList_append_obw rfl (.tmp 12) (.tmp 16) 22 rfl base 5 i0 _ Try.underlying22 HI.out HZ0.out rfl HZ1.out HZ2.out _ (b ++ nsB (l.take k)) rfl hob _ ⟨g, off + k * 8, none⟩ (nmL x) 8 8 rfl rfl HRB.out HLEN.out (by omega) ?_; intro v2 w2 hob2 hg2 hat2; have hB2 := hB.grown hg2 (Nat.le_trans hbase hsz) (fun k hk => hob.own k hk))
        | fail)
      go_roundw
      case rel =>
        refine ⟨k + 1, by omega, by go_num, by rw [← HSN.out, ← List.append_assoc]; exact hob2, hB2, fun j hj hvj => ?_, ?_⟩
        · refine (hg2.block j (by omega) (fun e => ?_)).trans (HOLD.out j hj hvj)
          rcases hown with h | ⟨i, h, hi⟩
          · exact hvj (h.symm.trans e.symm)
          · have e3 := h.symm.trans e.symm
            injection e3 with e3
            omega
        · rcases hat2 with h | h
          · exact hown.imp (fun x => h.trans x) (fun ⟨j, h1, h2⟩ => ⟨j, h.trans h1, h2⟩)
          · exact Or.inr ⟨_, h, hsz⟩
      case measure => simp [intOf]; omega
    · obtain rfl : k = n := by omega
      have hob3 := hob
      rw [List.take_of_length_le (by have := HN.out; omega)] at hob3
      clear hob
      go_wp2
      go_ret
      exact ⟨_, rfl, hob3, hB, hold, hown⟩
end Go.Proofs.Ytjghengkpbokaaa

/-
  copy of bytes into a block that is known whole, within a drawn region; where the bytes come from.
-/
namespace Go.Fl
open Go.ChangeShapes Go.WideShapes Go.ChangeAt Go.RowKit

theorem src_cells {w w' : World} {g off : Nat} {l : List UInt8} (hcell : ∀ (i : Nat) (b : UInt8), l[i]? = some b → w.cell? ⟨g, off + i, none⟩ = some (B b)) (hg : g < w.heap.size) (hb : Below w.heap.size w w') (k : Nat) (cs : List UInt8) (hc : (l.drop k).take cs.length = cs) :
    ∀ (j : Nat) (v : Value), (cs.map B)[j]? = some v → w'.cell? ((⟨g, off + k, none⟩ : Addr).add j) = some v := fun j v hj => by
  rw [List.getElem?_map] at hj
  obtain ⟨u, hu, rfl⟩ := Option.map_eq_some_iff.1 hj
  have hadd : (⟨g, off + k, none⟩ : Addr).add j = ⟨g, off + (k + j), none⟩ := by unfold Addr.add; split <;> simp_all [Nat.add_assoc]
  rw [hadd, hb.cell (p := ⟨g, off + (k + j), none⟩) hg]
  apply hcell
  rw [← hc, List.getElem?_take] at hu
  split at hu
  · rwa [List.getElem?_drop] at hu
  · cases hu
/-- copy of bytes into a block that is known whole. -/
theorem oper_copy_is {P : Program} {Q : Exit → Act → World → Prop} {a : Act} {w : World} {o : Oper} {K : Act → World → Prop} (d : Nat) (x y : Operand) (t : TypeId)
    (ho : o.op = .call { callee := .builtin .copy, args := #[x, y], argTypes := #[t, t] }) (elem : TypeId) (hu : P.underlying t = some (.slice elem)) (hs : (P.info? elem).map (·.size) = some 1)
    (g off n c : Nat) (T : TypeId) (cur : Array Value) (s : Addr) (m c2 : Nat) (cs : List Value) (hx : a.eval x = .slice (some ⟨g, off, none⟩) n c) (hy : a.eval y = .slice (some s) m c2) (hz : Is w g T cur)
    (hn : cs.length = Nat.min m n) (hsrc : ∀ (j : Nat) (v : Value), cs[j]? = some v → w.cell? (s.add j) = some v) (hfit : off + cs.length ≤ cur.size) (h1 : ∀ v ∈ cs, v.oneCell' = true)
    (new : Array Value) (hnew : (cur.toList.take off ++ cs ++ cur.toList.drop (off + cs.length)).toArray = new)
    (h : ∀ w', Is w' g T new → Below g w w' → (∀ b, b ≠ g → w'.heap[b]? = w.heap[b]?) → K (a.put (some d) (goInt cs.length)) w') (hd : o.dst = some d := by rfl) : Oper.wp P o a w K Q := by
  have hrun := run_copy_row (P := P) w t t o.type elem g off n c s m c2 cur T cs hu hs hz hn hsrc hfit h1
  rw [hnew] at hrun
  unfold Oper.wp
  simp [execOp, ho, resolve, invoke, builtin, hx, hy, hrun, Result.andThen]
  show K (a.put o.dst _) _
  rw [hd]
  exact h _ (setRow_heap w g _ _ T _ hz) (below_setRow (Below.refl _ _) (Nat.le_refl _) _) (fun b hb => setRow_other w g b new hb)
end Go.Fl

/-
  The developers' manytime: join, split, climb.
-/
namespace Go.Fl
open Go.ChangeShapes Go.WideShapes Go.ChangeAt Go.RowKit
theorem listF_take (l : List UInt8) : (listF l 0 23).take 18 = listF l 0 18 := by
  unfold listF
  rw [← List.map_take, List.take_range]
  rfl
theorem listF_drop (l : List UInt8) : (listF l 0 23).drop 18 = listF l 144 5 := by
  have e : ∀ i, 0 + 8 * (18 + i) = 144 + 8 * i := fun i => by omega
  apply List.ext_getElem?
  intro i
  rw [List.getElem?_drop]
  by_cases h : i < 5
  · rw [listF_get l 0 23 (18 + i) (by omega), listF_get l 144 5 i h, e]
  · rw [List.getElem?_eq_none (by rw [listF_len]; omega), List.getElem?_eq_none (by rw [listF_len]; omega)]
/-- What a level's 184 bytes show. -/
def partF (m : BitVec 64) (l : List UInt8) (j : Nat) : BitVec 64 := followF (endsF (recF m (listF l 0 18))) j 32 (listF l 144 5)
theorem partF_show (m : BitVec 64) (l : List UInt8) (p j : Nat) : partF m ((l.drop p).take 184) j = showF m l p j := by
  have e : ∀ q n, q + 8 * n ≤ 184 → listF ((l.drop p).take 184) q n = listF l (p + q) n := fun q n h => by
    unfold listF
    apply List.map_congr_left
    intro i hi
    have hi : i < n := by simpa using hi
    congr 1
    rw [List.drop_take, List.take_take, List.drop_drop, Nat.min_eq_left (by omega), Nat.add_assoc]
  unfold partF showF
  rw [e 0 18 (by omega), e 144 5 (by omega), Nat.add_zero]
end Go.Fl
namespace Go.Proofs.Ytjghengkpbokaaa
open Go.ChangeShapes Go.WideShapes Go.ChangeAt Go.RowKit Go.Fl

set_option maxRecDepth 10000 in
set_option maxHeartbeats 1000000 in
/-- join: bytes of the call's own, followed by the names, which lie elsewhere. -/
theorem djoin_any (v : Value) (b : List UInt8) (A : Option Addr) (l : List (BitVec 64)) (n c base : Nat) (hn : l.length = n) (hl : l.length ≤ 1000) (hbl : b.length ≤ 100000) (w : World) (hbase : base ≤ w.heap.size) (hob0 : OB w base 5 v b) (hr : RN w w.heap.size A l)
    (hne : ∀ g off, A = some ⟨g, off, none⟩ → v.ownBlock ≠ some g) :
    Calls Try.prog 40 #[v, .slice A n c] w fun e w' => ∃ v', e = .returned v' ∧ OB w' base 5 v' (b ++ nsB l) ∧ Below base w w' ∧ (∀ k, k < w.heap.size → v.ownBlock ≠ some k → w'.heap[k]? = w.heap[k]?) ∧ (v'.ownBlock = v.ownBlock ∨ ∃ k, v'.ownBlock = some k ∧ w.heap.size ≤ k) := by
  obtain ⟨i0, hi, hz0, hz1, hz2⟩ := info_parts info_byte
  have HI := Lib.hid hi
  have HZ0 := Lib.hid hz0
  have HZ1 := Lib.hid hz1
  have HZ2 := Lib.hid hz2
  have HR := Lib.hid hr
  have HN := Lib.hid hn
  have n1 : (n : Int) ≤ 1000 := by omega
  have hl0 : b ++ nsB (l.take 0) = b := by simp [nsB]
  clear hi hz0 hz1 hz2 hr hn
  go_enter Try.func40, Try.ntmps40
  go_wp2
  go_loopw [0, 9] (fun u i wr => ∃ k : Nat, k ≤ n ∧ i = .int .i64 (k : Int) ∧ OB wr base 5 u (b ++ nsB (l.take k)) ∧ Below base w wr ∧ (∀ j, j < w.heap.size → v.ownBlock ≠ some j → wr.heap[j]? = w.heap[j]?) ∧ (u.ownBlock = v.ownBlock ∨ ∃ j, u.ownBlock = some j ∧ w.heap.size ≤ j)) (fun _ i _ => n - (intOf i).toNat)
  case atStart => exact ⟨0, Nat.zero_le _, rfl, by rw [hl0]; exact hob0, Below.refl _ _, fun _ _ _ => rfl, Or.inl rfl⟩
  case round =>
    clear hob0
    obtain ⟨k, hk, rfl, hob, hB, hold, hown⟩ := hrel
    have hsz := hB.size
    by_cases hlt : k < n
    · obtain ⟨x, hx⟩ : ∃ x, l[k]? = some x := ⟨_, List.getElem?_eq_getElem (by have := HN.out; omega)⟩
      obtain ⟨g, off, rfl, hg, -⟩ := HR.out.at_ hx
      have hgo : wr.heap[g]? = w.heap[g]? := hold g hg (hne g off rfl)
      have hrw : RN wr w.heap.size (some ⟨g, off, none⟩) l := rn_far (_gp := 0) HR.out (Nat.le_refl _) (fun g' off' e _ => by injection e with e; injection e with e1 e2; subst e1; exact hgo)
      have HRG := Lib.hid (rn_range hrw rfl hx)
      have HSN := Lib.hid (nsB_snoc l k x hx)
      have hlen : (b ++ nsB (l.take k)).length + (nmL x).length ≤ 1000000 := by rw [List.length_append, nsB_len, nmL_len, List.length_take]; omega
      have HLEN := Lib.hid hlen
      have HNE := Lib.hid hne
      have HOLD := Lib.hid hold
      have k1 : (k : Int) < (n : Int) := by omega
      have hn0 := Is.new wr 30 #[B 0, B 0, B 0, B 0, B 0, B 0, B 0, B 0]
      clear hrw hlen hx hgo hne hold
      go_wp2_with (first
        | (refine wpList_load_mid rfl 30 (.tmp 11) rfl g (off + k * 8) (by rfl) (nmR x) _ HRG.out Try.underlying30 rfl name_info ?_)
        | (refine wpList_store_is rfl 30 (.tmp 6) (.tmp 12) rfl wr.heap.size 30 _ (nmC x) rfl rfl hn0 (nmC_size _) name_info (nmC_one _) ?_; intro w4 hn4 hb4; have hbb := ((Below.refl wr.heap.size wr).alloc (Nat.le_refl _) (.cells #[B 0, B 0, B 0, B 0, B 0, B 0, B 0, B 0] 30)).trans hb4; have hob4 := hob.keep hbb; have hB4 := hB.trans (hbb.mono (Nat.le_trans hbase hsz)); clear hn0 hb4)
        | (at_builtin; refine wpList_append_obw rfl (.tmp 13) (.tmp 14) 22 rfl base 5 i0 _ Try.underlying22 HI.out HZ0.out rfl HZ1.out HZ2.out _ (b ++ nsB (l.take k)) rfl hob4 _ ⟨wr.heap.size, 0, none⟩ (nmL x) 8 8 rfl rfl (is_rb hn4 hn4.lt) HLEN.out (by have := hbb.size; omega) ?_; intro v2 w2 hob2 hg2 hat2; have hB2 := hB4.grown hg2 (by have := hbb.size; omega) (fun k hk => hob.own k hk))
        | fail)
      go_roundw
      case rel =>
        have hs4 := hbb.size
        refine ⟨k + 1, by omega, by go_num, by rw [← HSN.out, ← List.append_assoc]; exact hob2, hB2, fun j hj hvj => ?_, ?_⟩
        · refine (hg2.block j (by omega) (fun e => ?_)).trans ((hbb.block j (by omega)).trans (HOLD.out j hj hvj))
          rcases hown with h | ⟨i, h, hi⟩
          · exact hvj (h.symm.trans e.symm)
          · have e3 := h.symm.trans e.symm
            injection e3 with e3
            omega
        · rcases hat2 with h | h
          · exact hown.imp (fun x => h.trans x) (fun ⟨j, h1, h2⟩ => ⟨j, h.trans h1, h2⟩)
          · exact Or.inr ⟨_, h, by omega⟩
      case measure => simp [intOf]; omega
    · obtain rfl : k = n := by omega
      have hob3 := hob
      rw [List.take_of_length_le (by have := HN.out; omega)] at hob3
      clear hob
      go_wp2
      go_ret
      exact ⟨_, rfl, hob3, hB, hold, hown⟩

theorem byte_size1 : (Try.prog.info? 5).map (·.size) = some 1 := by kernel_rfl

set_option maxRecDepth 10000 in
set_option maxHeartbeats 1000000 in
/-- split: 23 names out of 184 bytes. -/
theorem dsplit_any (A : Option Addr) (l : List UInt8) (c : Nat) (hl : l.length = 184) (hc : 184 ≤ c) (L : List (BitVec 64)) (hL : Hid (listF l 0 23 = L)) (w : World) (hr : RB w w.heap.size A l) :
    Calls Try.prog 51 #[.slice A 184 c] w fun e w' => e = .returned (.slice (some ⟨w.heap.size, 0, none⟩) 23 23) ∧ Is w' w.heap.size 30 (nsC L).toArray ∧ Below w.heap.size w w' := by
  obtain ⟨i8, hi8, hz0, hz8, hz9⟩ := info_parts info_name
  have HI := Lib.hid hi8
  have HZ0 := Lib.hid hz0
  have HZ1 := Lib.hid hz8
  have HZ2 := Lib.hid hz9
  obtain ⟨g, off, rfl, hg, hcell⟩ := hr (by omega)
  obtain ⟨i1, hi1, h10, h11, h12⟩ := info_parts info_byte
  have HI1 := Lib.hid hi1
  have H11 := Lib.hid h11
  have hLL := listF_len l 0 23
  rw [hL.out] at hLL
  clear hi8 hz0 hz8 hz9 hi1 h10 h11 h12
  go_enter Try.func51, Try.ntmps51
  go_wp2_with (first
    | (at_make; refine wpList_make_sl rfl _ _ 48 rfl 30 i8 _ 8 8 Try.underlying48 HI.out HZ0.out HZ1.out HZ2.out _ _ _ _ 23 23 rfl rfl (by go_num) (by go_num) (by omega) (by omega) (by omega) ?_; intro Z w1 hZ hzz hFm)
    | fail)
  have hZl := hZ.out
  clear hZ
  go_loopw [11] (fun i wr => ∃ (k : Nat) (Y : List Value), k ≤ 23 ∧ i = .int .i64 (k : Int) ∧ Is wr w.heap.size 30 Y.toArray ∧ Y.length = 184 ∧ Y.take (k * 8) = nsC (L.take k) ∧ Fr w 1 wr) (fun i _ => 23 - (intOf i).toNat)
  case atStart => exact ⟨0, Z, Nat.zero_le _, rfl, hzz, by omega, by simp [nsC], hFm⟩
  case round =>
    clear hzz hFm hZl
    obtain ⟨k, Y, hk, rfl, hY, hYl, hYt, hF⟩ := hrel
    by_cases hlt : k < 23
    · obtain ⟨x, hx⟩ : ∃ x, uintV ((l.drop (0 + 8 * k)).take 8) = x := ⟨_, rfl⟩
      have hsn := listF_snoc l 0 23 k hlt
      rw [hL.out, hx] at hsn
      have hnx : (l.drop (k * 8)).take 8 = nmL x := by
        rw [← hx, show 0 + 8 * k = k * 8 by omega, nmL_uintV _ (by simp; omega)]
      have HNX := Lib.hid hnx
      have HROW := Lib.hid (row_snoc Y L k x hYt (by omega) (by omega) hsn)
      have HYL := Lib.hid hYl
      have s1 : (k : Int) < 23 := by omega
      have s0 : (0 : Int) ≤ (k : Int) := by omega
      have hk8 : ((k * 8 : Nat) : Int) = (k : Int) * 8 := by omega
      have hw8 : IntKind.i64.wrap ((k : Int) * 8) = (k : Int) * 8 := by rw [IntKind.wrap_i64]; omega
      have hsl := fun (W : World) => run_from_at (P := Try.prog) Try.underlying22 HI1.out H11.out g off 184 c (k * 8) (X := (k : Int) * 8) (Lib.hid hk8.symm) (by omega) (by omega) W
      clear hx hsn hnx hYt hYl hk8
      go_wp2_with fail
      refine wp_region_held_drew (S := fun w' => Below w.heap.size w w') (by kernel_rfl) hF.1.drew (fun hHeld => ?_)
      refine held_pure 0 14 (.slice (some ⟨w.heap.size, 0, none⟩) 23 23) rfl (fun W => by rfl) hHeld ?_
      try simp only [Act.put, List.setIfInBounds_toArray, List.set_cons_zero, List.set_cons_succ]
      refine held_pure 1 15 (.int .i64 (k : Int)) rfl (fun W => by rfl) hHeld ?_
      try simp only [Act.put, List.setIfInBounds_toArray, List.set_cons_zero, List.set_cons_succ]
      refine held_pure 2 16 (.pointer (some ⟨w.heap.size, k * 8, none⟩)) rfl (fun W => by go_simp) hHeld ?_
      try simp only [Act.put, List.setIfInBounds_toArray, List.set_cons_zero, List.set_cons_succ]
      refine held_pure 3 17 (.slice (some ⟨w.heap.size, k * 8, none⟩) 8 8) rfl (fun W => by go_simp) hHeld ?_
      try simp only [Act.put, List.setIfInBounds_toArray, List.set_cons_zero, List.set_cons_succ]
      refine held_pure 4 18 (.slice (some ⟨g, off, none⟩) 184 c) rfl (fun W => by rfl) hHeld ?_
      try simp only [Act.put, List.setIfInBounds_toArray, List.set_cons_zero, List.set_cons_succ]
      refine held_pure 5 19 (.int .i64 (k : Int)) rfl (fun W => by rfl) hHeld ?_
      try simp only [Act.put, List.setIfInBounds_toArray, List.set_cons_zero, List.set_cons_succ]
      refine held_pure 6 20 (.int .i64 ((k : Int) * 8)) rfl (fun W => by go_simp) hHeld ?_
      try simp only [Act.put, List.setIfInBounds_toArray, List.set_cons_zero, List.set_cons_succ]
      refine held_pure 7 21 (.slice (some ⟨g, off + k * 8, none⟩) (184 - k * 8) (c - k * 8)) rfl (fun W => by go_simp) hHeld ?_
      try simp only [Act.put, List.setIfInBounds_toArray, List.set_cons_zero, List.set_cons_succ]
      refine held_one (i := 8) (by kernel_rfl) rfl (by rfl) (fun KK hK => ?_)
      refine oper_copy_is 22 (.tmp 17) (.tmp 21) 22 rfl 5 Try.underlying22 byte_size1 w.heap.size (k * 8) 8 8 30 Y.toArray ⟨g, off + k * 8, none⟩ (184 - k * 8) (c - k * 8) (nmR x) (by rfl) (by rfl) hY.drew (show 8 = Nat.min (184 - k * 8) 8 from (Nat.min_eq_right (by omega)).symm) (src_cells hcell hg hF.1 (k * 8) (nmL x) HNX.out) (by have := HYL.out; show k * 8 + 8 ≤ Y.toArray.size; simp; omega) (by simp [Value.oneCell']) (Y.take (k * 8) ++ nmR x ++ Y.drop (k * 8 + 8)).toArray rfl (fun w3 I3 B3 F3 => ?_)
      refine hK.out _ _ (hHeld.trans B3) (fun hHeld1 => ?_)
      clear hK KK
      try simp only [Act.put, List.setIfInBounds_toArray, List.set_cons_zero, List.set_cons_succ]
      refine wpAnyH_done (by kernel_rfl) ?_ _
      try simp only [Act.put, List.setIfInBounds_toArray, List.set_cons_zero, List.set_cons_succ]
      go_wp2_with fail
      go_roundw
      case rel => exact ⟨k + 1, _, by omega, by go_num, I3, HROW.out.2.trans HYL.out, HROW.out.1, hF.drew.step B3 (Nat.le_refl _)⟩
      case measure => simp [intOf]; omega
    · obtain rfl : k = 23 := by omega
      rw [List.take_of_length_le (by omega), List.take_of_length_le (by omega)] at hYt
      subst hYt
      clear hYl
      go_wp2_with fail
      go_ret
      exact ⟨rfl, hY, hF.1⟩

set_option maxRecDepth 10000 in
set_option maxHeartbeats 2000000 in
/-- climb: the root that 184 bytes show. -/
theorem dclimb_any (m : BitVec 64) (j : Nat) (hj : j < 32) (J : Int) (hJ : J = (j : Int)) (A : Option Addr) (l : List UInt8) (c : Nat) (hl : l.length = 184) (hc : 184 ≤ c) (y : BitVec 64) (hy : Hid (partF m l j = y)) (w : World) (hr : RB w w.heap.size A l) :
    Calls Try.prog 33 #[nm m, .int .i64 J, .slice A 184 c] w fun e w' => e = .returned (.tuple #[nm y, .bool true]) ∧ Below w.heap.size w w' := by
  subst hJ
  obtain ⟨hb, hz, hF⟩ := boxW_facts w m
  have hsz : (boxW w m).heap.size = w.heap.size + 2 := by simp [boxW]
  obtain ⟨L, hL⟩ : ∃ L, listF l 0 23 = L := ⟨_, rfl⟩
  have hLL := listF_len l 0 23
  have hLt := listF_take l
  have hLd := listF_drop l
  rw [hL] at hLL hLt hLd
  obtain ⟨L1, hL1⟩ : ∃ L1, L.take 18 = L1 := ⟨_, rfl⟩
  obtain ⟨L2, hL2⟩ : ∃ L2, L.drop 18 = L2 := ⟨_, rfl⟩
  have hl1 : L1.length = 18 := by rw [← hL1, List.length_take]; omega
  have hl2 : L2.length = 5 := by rw [← hL2, List.length_drop]; omega
  obtain ⟨one, hone⟩ : ∃ x, endsF (recF m L1) = x := ⟨_, rfl⟩
  have hy2 : followF one j 32 L2 = y := by
    rw [← hy.out, ← hone, ← hL1, ← hL2, hLt, hLd]
    rfl
  have HR1 : Hid (recP m L1 = (one, true)) := Lib.hid (by rw [recP_len m L1 hl1, hone])
  have HF2 : Hid (followP one ((j : Nat) : Int) 32 L2 = (y, true)) := Lib.hid (by
    unfold followP
    have h0 := depthI_nat j 32 (by omega)
    rw [depth32 j (by omega)] at h0
    rw [show ((32 : Int)) = ((32 : Nat) : Int) from rfl, h0, if_pos ⟨by omega, by omega⟩, Int.toNat_natCast, Int.toNat_natCast, hy2])
  have HL := Lib.hid hL
  have HLL := Lib.hid hLL
  have HL1 := Lib.hid hL1
  have HL2 := Lib.hid hL2
  have hl1' := Lib.hid hl1
  have hl2' := Lib.hid hl2
  obtain ⟨i8, hi8, hz0, hz8, hz9⟩ := info_parts info_name
  have HI := Lib.hid hi8
  have HZ0 := Lib.hid hz0
  have HZ1 := Lib.hid hz8
  have HZ2 := Lib.hid hz9
  have hto := fun (W : World) => run_names_to (P := Try.prog) Try.underlying48 HI.out HZ1.out (w.heap.size + 2) 0 23 23 18 (X := 18) (Lib.hid rfl) (by omega) (by omega) W
  have hfrom := fun (W : World) => run_names_from (P := Try.prog) Try.underlying48 HI.out HZ1.out (w.heap.size + 2) 0 23 23 18 (X := 18) (Lib.hid rfl) (by omega) (by omega) W
  clear hL hLL hL1 hL2 hl1 hl2 hone hy2 hy hLt hLd hi8 hz0 hz8 hz9
  go_enter Try.func33, Try.ntmps33
  go_wp2_with fail
  refine (dsplit_any A l c hl hc L HL _ ((hr.keep hF.1).mono hF.1.size)).mono ?_
  rintro e W ⟨rfl, hn, hb1⟩
  have hb := hb.next hb1
  have hz := hz.next hb1
  have hF := hF.next hb1
  rw [hsz] at hn ⊢
  have hv1 : VN W (.slice (some ⟨w.heap.size + 2, 0, none⟩) 18 23) L1 := by
    rw [← HL1.out]
    exact VN.take (is_rn hn) (by have := HLL.out; omega) (by have := HLL.out; omega) (by omega)
  have hv2 : VN W (.slice (some ⟨w.heap.size + 2, 0 + 18 * 8, none⟩) 5 5) L2 := by
    rw [← HL2.out]
    have h := VN.drop (k := 18) (is_rn hn) (by have := HLL.out; omega) (c := 23) (by have := HLL.out; omega) (by omega)
    rw [HLL.out] at h
    exact h
  clear hn hr hb1
  go_wp2_with fail
  go_cut [9, 10] (fun s9 s10 wx => ∃ p, W.heap.size ≤ p ∧ s9 = .pointer (some ⟨p, 0, none⟩) ∧ s10 = .bool true ∧ Is wx p 30 (nmC one) ∧ Below W.heap.size W wx)
  case first =>
    refine wp_region_held_drew (S := fun w' => Below W.heap.size W w') (by kernel_rfl) (Below.refl _ _).drew (fun hHeld => ?_)
    refine held_load 0 14 rfl 30 (.tmp 3) rfl w.heap.size 0 rfl (nmR m) (fun w' h => range_is (cs := nmR m) (hb.next h)) Try.underlying30 name_info hHeld ?_
    try simp only [Act.put, List.setIfInBounds_toArray, List.set_cons_zero, List.set_cons_succ]
    refine held_pure 1 15 (.slice (some ⟨w.heap.size + 2, 0, none⟩) 23 23) rfl (fun W => by rfl) hHeld ?_
    try simp only [Act.put, List.setIfInBounds_toArray, List.set_cons_zero, List.set_cons_succ]
    refine held_pure 2 16 (.slice (some ⟨w.heap.size + 2, 0, none⟩) 18 23) rfl (fun W => by go_simp) hHeld ?_
    try simp only [Act.put, List.setIfInBounds_toArray, List.set_cons_zero, List.set_cons_succ]
    refine wpAnyH_ready (rs := [3, 7]) (by kernel_rfl) (by simp) (AllReadyH.cons rfl (fun KK hK => ?_) (AllReadyH.cons rfl (fun KK hK => ?_) AllReadyH.nil))
    · rw [if_pos (by rfl)]
      go_wp2_with fail
      refine (oneO.recover _ m (.slice (some ⟨w.heap.size + 2, 0, none⟩) 18 23) L1 (one, true) (hv1.next hHeld) (by have := hl1'.out; omega) HR1).mono ?_
      rintro e x1 ⟨rfl, hb⟩
      have hC1 := hHeld.trans (hb.mono hHeld.size)
      go_wp2_with fail
      refine hK.out _ _ hC1 (fun _ => ?_)
      clear hK KK
      try simp only [Act.put, List.setIfInBounds_toArray, List.set_cons_zero, List.set_cons_succ]
      refine held_pure 4 13 (.tuple #[nm one, .bool true]) rfl (fun W => by rfl) hC1 ?_
      try simp only [Act.put, List.setIfInBounds_toArray, List.set_cons_zero, List.set_cons_succ]
      refine held_pure 5 18 (nm one) rfl (fun W => by rfl) hC1 ?_
      try simp only [Act.put, List.setIfInBounds_toArray, List.set_cons_zero, List.set_cons_succ]
      refine held_pure 6 19 (.bool true) rfl (fun W => by rfl) hC1 ?_
      try simp only [Act.put, List.setIfInBounds_toArray, List.set_cons_zero, List.set_cons_succ]
      refine held_one (i := 7) (by kernel_rfl) rfl (by rfl) (fun KK hK => ?_)
      go_wp2_with fail
      have hA2 := hC1.alloc hC1.size (.cells #[B 0, B 0, B 0, B 0, B 0, B 0, B 0, B 0] 30)
      have hz2 := Is.new x1 30 #[B 0, B 0, B 0, B 0, B 0, B 0, B 0, B 0]
      have hzle := hC1.size
      refine hK.out _ _ hA2 (fun _ => ?_)
      clear hK KK
      try simp only [Act.put, List.setIfInBounds_toArray, List.set_cons_zero, List.set_cons_succ]
      refine held_one (i := 8) (by kernel_rfl) rfl (by rfl) (fun KK hK => ?_)
      refine oper_store_is 30 (.tmp 9) (.tmp 18) rfl _ 30 _ (nmC one) rfl rfl hz2 (nmC_size _) name_info (nmC_one _) ?_
      intro x9 hz9 hb9 hfar9
      have hS9 := hA2.trans (hb9.mono hzle)
      refine hK.out _ _ hS9 (fun _ => ?_)
      clear hK KK
      try simp only [Act.put, List.setIfInBounds_toArray]
      refine held_pure 9 10 (.bool true) rfl (fun W => by rfl) hS9 ?_
      refine wpAnyH_done (by kernel_rfl) ?_ _
      try simp only [Act.put]
      go_wp2_with fail
      go_meet
      case rel => exact ⟨_, hzle, rfl, rfl, hz9, hS9⟩
    · rw [if_pos (by rfl)]
      go_wp2_with fail
      have hA3 := hHeld.alloc hHeld.size (.cells #[B 0, B 0, B 0, B 0, B 0, B 0, B 0, B 0] 30)
      have hz3 := Is.new W.drew 30 #[B 0, B 0, B 0, B 0, B 0, B 0, B 0, B 0]
      have hzle := hHeld.size
      refine hK.out _ _ hA3 (fun _ => ?_)
      clear hK KK
      try simp only [Act.put, List.setIfInBounds_toArray, List.set_cons_zero, List.set_cons_succ]
      refine held_one (i := 3) (by kernel_rfl) rfl (by rfl) (fun KK hK => ?_)
      go_wp2_with fail
      refine (oneO.recover _ m (.slice (some ⟨w.heap.size + 2, 0, none⟩) 18 23) L1 (one, true) (hv1.next hA3) (by have := hl1'.out; omega) HR1).mono ?_
      rintro e x4 ⟨rfl, hb⟩
      have hC4 := hA3.trans (hb.mono hA3.size)
      have hz4 := hz3.next hb
      go_wp2_with fail
      refine hK.out _ _ hC4 (fun _ => ?_)
      clear hK KK
      try simp only [Act.put, List.setIfInBounds_toArray, List.set_cons_zero, List.set_cons_succ]
      refine held_pure 4 13 (.tuple #[nm one, .bool true]) rfl (fun W => by rfl) hC4 ?_
      try simp only [Act.put, List.setIfInBounds_toArray, List.set_cons_zero, List.set_cons_succ]
      refine held_pure 5 18 (nm one) rfl (fun W => by rfl) hC4 ?_
      try simp only [Act.put, List.setIfInBounds_toArray, List.set_cons_zero, List.set_cons_succ]
      refine held_pure 6 19 (.bool true) rfl (fun W => by rfl) hC4 ?_
      try simp only [Act.put, List.setIfInBounds_toArray, List.set_cons_zero, List.set_cons_succ]
      refine held_one (i := 8) (by kernel_rfl) rfl (by rfl) (fun KK hK => ?_)
      refine oper_store_is 30 (.tmp 9) (.tmp 18) rfl _ 30 _ (nmC one) rfl rfl hz4 (nmC_size _) name_info (nmC_one _) ?_
      intro x9 hz9 hb9 hfar9
      have hS9 := hC4.trans (hb9.mono hzle)
      refine hK.out _ _ hS9 (fun _ => ?_)
      clear hK KK
      try simp only [Act.put, List.setIfInBounds_toArray]
      refine held_pure 9 10 (.bool true) rfl (fun W => by rfl) hS9 ?_
      refine wpAnyH_done (by kernel_rfl) ?_ _
      try simp only [Act.put]
      go_wp2_with fail
      go_meet
      case rel => exact ⟨_, hzle, rfl, rfl, hz9, hS9⟩
  case rest =>
    obtain ⟨p1, hlp1, rfl, rfl, hp1, hB1⟩ := hcut
    have hne1 : p1 ≠ w.heap.size + 1 := by have := hF.2; omega
    obtain ⟨w1, rfl⟩ : ∃ y, y = wc := ⟨_, rfl⟩
    have hz := hz.next hB1
    have hF := hF.next hB1
    have hv2 := hv2.next hB1
    clear hb hv1 hB1
    go_wp2_with fail
    refine wp_region_held_drew (S := fun w' => Is w' p1 30 (nmC one) ∧ Fr w 2 w') (by kernel_rfl) ⟨hp1.drew, hF.drew⟩ (fun hHeld => ?_)
    refine held_load 0 23 rfl 30 (.tmp 9) rfl p1 0 rfl (nmR one) (fun w' h => range_is (cs := nmR one) h.1) Try.underlying30 name_info hHeld ?_
    try simp only [Act.put, List.setIfInBounds_toArray, List.set_cons_zero, List.set_cons_succ]
    refine held_pure 1 24 (.int .i64 (j : Int)) rfl (fun W => by rfl) hHeld ?_
    try simp only [Act.put, List.setIfInBounds_toArray, List.set_cons_zero, List.set_cons_succ]
    refine held_pure 2 25 (.slice (some ⟨w.heap.size + 2, 0, none⟩) 23 23) rfl (fun W => by rfl) hHeld ?_
    try simp only [Act.put, List.setIfInBounds_toArray, List.set_cons_zero, List.set_cons_succ]
    refine held_pure 3 26 (.slice (some ⟨w.heap.size + 2, 0 + 18 * 8, none⟩) 5 5) rfl (fun W => by go_simp) hHeld ?_
    try simp only [Act.put, List.setIfInBounds_toArray, List.set_cons_zero, List.set_cons_succ]
    refine held_one (i := 4) (by kernel_rfl) rfl (by rfl) (fun KK hK => ?_)
    go_wp2_with fail
    refine (mFollow_any _ one ((j : Nat) : Int) 32 (.slice (some ⟨w.heap.size + 2, 0 + 18 * 8, none⟩) 5 5) L2 (y, true) (hv2.next (Below.refl _ _).drew) (by have := hl2'.out; omega) ⟨by omega, by omega⟩ ⟨by omega, by omega⟩ HF2).mono ?_
    rintro e w2 ⟨rfl, hb⟩
    have hz2 := hz.drew.next hb
    go_wp2_with fail
    refine hK.out _ _ ⟨hHeld.1.next hb, hHeld.2.next hb⟩ (fun hHeld1 => ?_)
    clear hK KK
    try simp only [Act.put, List.setIfInBounds_toArray, List.set_cons_zero, List.set_cons_succ]
    refine held_pure 5 28 (nm y) rfl (fun W => by rfl) hHeld1 ?_
    try simp only [Act.put, List.setIfInBounds_toArray, List.set_cons_zero, List.set_cons_succ]
    refine held_pure 6 29 (.bool true) rfl (fun W => by rfl) hHeld1 ?_
    try simp only [Act.put, List.setIfInBounds_toArray, List.set_cons_zero, List.set_cons_succ]
    refine held_one (i := 7) (by kernel_rfl) rfl (by rfl) (fun KK hK => ?_)
    refine oper_store_is 30 (.tmp 6) (.tmp 28) rfl (w.heap.size + 1) 30 _ (nmC y) rfl rfl hz2 (nmC_size _) name_info (nmC_one _) ?_
    intro w3 hz3 hb3 hfar3
    refine hK.out _ _ ⟨(hfar3 p1 hne1).trans hHeld1.1, hHeld1.2.step hb3 (by omega)⟩ (fun hHeld2 => ?_)
    clear hK KK
    try simp only [Act.put, List.setIfInBounds_toArray]
    refine held_pure 8 7 (.bool true) rfl (fun W => by rfl) hHeld2 ?_
    try simp only [Act.put]
    refine wpAnyH_done (by kernel_rfl) ?_ _
    try simp only [Act.put, List.setIfInBounds_toArray, List.set_cons_zero, List.set_cons_succ]
    go_wp2_with fail
    exact ret_is_tmp rfl (w.heap.size + 1) 30 _ rfl hz3 Try.underlying30 rfl name_info rfl ⟨rfl, hHeld2.2.1⟩
end Go.Proofs.Ytjghengkpbokaaa
