/-
  Byte strings that the call itself makes: 'OB' (a slice of its own with these bytes), and append onto it from any slice of bytes, nil let in.
-/
import Derived.Test.YtpnmmfacnflngaaBytes
import Derived.Maps.AppendAt
import Derived.Deep.DeepAppendWide
import Derived.Deep.DeepAppendRoom
import Derived.Laws.AppendOwnNone
import Derived.Deep.RegionLaw
import Derived.OwnWalk
namespace Go.Fl
open Go.ChangeShapes Go.WideShapes Go.ChangeAt Go.RowKit

/-- A slice of the call's own, from block base on, with these bytes. -/
def OB (w : World) (base : Nat) (tb : TypeId) (v : Value) (l : List UInt8) : Prop := w.ownsRow base tb 1 v l.length (l.map B)

section
variable {w w' : World} {base : Nat} {tb : TypeId} {v : Value} {l : List UInt8}
theorem OB.form (h : OB w base tb v l) : ∃ A c, v = .slice A l.length c ∧ l.length ≤ c ∧ c ≤ 9223372036854775807 ∧ RB w w.heap.size A l := by
  rcases h.2 with ⟨rfl, h0⟩ | ⟨g, cap, cur, rfl, _, hh, hn, hm, _, ht⟩
  · have : l = [] := List.eq_nil_of_length_eq_zero h0
    subst this
    exact ⟨none, 0, rfl, by simp, by omega, RB.nil _ _ _⟩
  · refine ⟨_, cap, rfl, hn, by simp only [maxLen] at hm; omega, fun _ => ⟨g, 0, rfl, (Array.getElem?_eq_some_iff.1 hh).1, fun i b hb => ?_⟩⟩
    rw [cell_of_row w g (0 + i) cur tb (0, 0) hh, Nat.zero_add]
    have h1 : (l.map B)[i]? = some (B b) := by simp [hb]
    rw [← ht, Nat.mul_one, List.getElem?_take] at h1
    split at h1
    · simpa using h1
    · cases h1
theorem OB.form_n (h : OB w base tb v l) : ∃ A n c, v = .slice A n c ∧ Hid (n = l.length) ∧ l.length ≤ c ∧ c ≤ 9223372036854775807 ∧ Hid (RB w w.heap.size A l) := by
  obtain ⟨A, c, h1, h2, h3, h4⟩ := h.form
  exact ⟨A, _, c, h1, rfl, h2, h3, h4⟩
theorem OB.keep (h : OB w base tb v l) (hb : Below w.heap.size w w') : OB w' base tb v l := by
  refine ⟨h.1, ?_⟩
  rcases h.2 with h2 | ⟨g, cap, cur, hv, hg, hh, r⟩
  · exact Or.inl h2
  · exact Or.inr ⟨g, cap, cur, hv, hg, (hb.block g (Array.getElem?_eq_some_iff.1 hh).1).trans hh, r⟩
theorem OB.drew (h : OB w base tb v l) : OB w.drew base tb v l := h
theorem OB.base_le (h : OB w base tb v l) {m : Nat} (hm : m ≤ base) : OB w m tb v l := by
  refine ⟨h.1, ?_⟩
  rcases h.2 with h2 | ⟨g, cap, cur, hv, hg, r⟩
  · exact Or.inl h2
  · exact Or.inr ⟨g, cap, cur, hv, by omega, r⟩
theorem OB.own (h : OB w base tb v l) : ∀ k, v.ownBlock = some k → base ≤ k := fun k hk => by
  rcases h.2 with ⟨rfl, _⟩ | ⟨g, cap, cur, rfl, hg, _⟩
  · simp [Value.ownBlock] at hk
  · simp [Value.ownBlock] at hk
    omega
end

section
variable {P : Program} (w : World)
theorem run_append_nothing (base : Nat) (t ty e : TypeId) (i : TypeInfo) (ht : P.underlying t = some (.slice e)) (hi : P.info? e = some i)
    (v : Value) (l : List UInt8) (h : OB w base e v l) (c : Nat) : (Builtin.append_ #[t, t] ty #[v, .slice none 0 c]).run P w = .ok v w := by
  rcases h.2 with ⟨rfl, _⟩ | ⟨g, cap, cur, rfl, _, _, hnc, _⟩
  · simp [Builtin.append_, run_underlying ht, sizeOf, typeInfo, hi, Builtin.lenOf, Builtin.firstCells]
  · simp [Builtin.append_, run_underlying ht, sizeOf, typeInfo, hi, Builtin.lenOf, Builtin.firstCells, hnc, storeCells]

theorem rb_news {n : Nat} {ad : Addr} {l : List UInt8} (h : RB w n (some ad) l) : ∀ j u, (l.map B)[j]? = some u → w.cell? (ad.add j) = some u := fun j u hu => by
  have hp : 0 < l.length := by
    rcases Nat.eq_zero_or_pos l.length with h0 | h0
    · have : l = [] := List.eq_nil_of_length_eq_zero h0
      subst this
      simp at hu
    · exact h0
  obtain ⟨g, off, e, _, hc⟩ := h hp
  injection e with e
  subst e
  obtain ⟨b, hb, rfl⟩ : ∃ b, l[j]? = some b ∧ B b = u := by simpa using hu
  rw [add_plain]
  exact hc j b hb
theorem bytes_one (l : List UInt8) : ∀ u ∈ l.map B, u.oneCell' = true := fun u hu => by
  rw [List.mem_map] at hu
  obtain ⟨b, _, hb⟩ := hu
  rw [← hb]
  rfl
theorem rb_none {n : Nat} {l : List UInt8} (h : RB w n none l) : l = [] := by
  rcases Nat.eq_zero_or_pos l.length with h0 | h0
  · exact List.eq_nil_of_length_eq_zero h0
  · obtain ⟨g, off, e, _⟩ := h h0
    cases e

/-- append of bytes onto bytes of the call's own; the sum is at most 1.6 * 10^14. -/
theorem run_append_ob (base : Nat) (t ty e : TypeId) (i : TypeInfo) (ht : P.underlying t = some (.slice e)) (hi : P.info? e = some i) (hz : i.zero = some (.int .u8 0)) (hs : i.size = 1) (hb : i.bytes = 1)
    (v : Value) (l : List UInt8) (h : OB w base e v l) (n : Nat) (A : Option Addr) (k : List UInt8) (c : Nat) (hr : RB w n A k) (hm : l.length + k.length ≤ 160000000000000) (hbase : base ≤ w.heap.size) :
    ∃ v' w', (Builtin.append_ #[t, t] ty #[v, .slice A k.length c]).run P w = .ok v' w' ∧ OB w' base e v' (l ++ k) ∧ w.grownBy w' v.ownBlock ∧ True := by
  cases A with
  | none =>
    obtain rfl := rb_none w hr
    exact ⟨v, w, run_append_nothing w base t ty e i ht hi v l h c, by simpa using h, World.grownBy.refl w _, trivial⟩
  | some ad =>
    obtain ⟨v', w', hrun, h2, h3, _⟩ := run_append_own_wide (P := P) w base t ty e i _ 1 1 ht hi hz hs hb rfl (by omega) v l.length (l.map B) h ad k.length c (k.map B) (by simp) (rb_news w hr) (bytes_one k) (by simp only [maxLen]; omega) (by omega) hbase
    exact ⟨v', w', hrun, by simpa [OB] using h2, h3, trivial⟩

/-- append of bytes onto bytes of the call's own where there is room. -/
theorem run_append_ob_room (base : Nat) (t ty e : TypeId) (i : TypeInfo) (ht : P.underlying t = some (.slice e)) (hi : P.info? e = some i) (hs : i.size = 1)
    (g cap : Nat) (l : List UInt8) (h : OB w base e (.slice (some ⟨g, 0, none⟩) l.length cap) l) (n : Nat) (A : Option Addr) (k : List UInt8) (c : Nat) (hr : RB w n A k) (hm : l.length + k.length ≤ cap) :
    ∃ w', (Builtin.append_ #[t, t] ty #[.slice (some ⟨g, 0, none⟩) l.length cap, .slice A k.length c]).run P w = .ok (.slice (some ⟨g, 0, none⟩) (l ++ k).length cap) w' ∧ OB w' base e (.slice (some ⟨g, 0, none⟩) (l ++ k).length cap) (l ++ k) ∧ w.grownBy w' (some g) := by
  cases A with
  | none =>
    obtain rfl := rb_none w hr
    refine ⟨w, ?_, ?_, World.grownBy.refl w _⟩
    · have := run_append_nothing w base t ty e i ht hi _ l h c
      simpa using this
    · simpa using h
  | some ad =>
    obtain ⟨w', hrun, h2, h3⟩ := run_append_own_spare (P := P) w base t ty e i 1 ht hi hs g l.length cap (l.map B) h ad k.length c (k.map B) (by simp) (rb_news w hr) (bytes_one k) hm
    refine ⟨w', ?_, ?_, h3⟩
    · simpa using hrun
    · simpa [OB] using h2
end

/-- x[k:], whatever the slice's address. -/
theorem run_slice_from {P : Program} {ts te : TypeId} {i : TypeInfo} (hs : P.underlying ts = some (.slice te)) (hi : P.info? te = some i) (h1 : i.size = 1) (A : Option Addr) (n c k : Nat) (hk : k ≤ n) (W : World) :
    (Instr.slice ts (.slice A n c) (some (.int .i64 (k : Int))) none none).run P W = .ok (.slice (if c = k then A else A.map (·.add k)) (n - k) (c - k)) W := by
  simp [Instr.slice, run_underlying hs, Instr.sliceBounds, Instr.sliceBound, asIntOf, sizeOf, typeInfo, hi, h1]
  intro h3
  omega

/-- x[a:b], whatever the slice's address. -/
theorem run_slice_range {P : Program} {ts te : TypeId} {i : TypeInfo} (hs : P.underlying ts = some (.slice te)) (hi : P.info? te = some i) (h1 : i.size = 1) (A : Option Addr) (n c : Nat) (lo hi' : Int) (a b : Nat) (ha : lo = (a : Int)) (hb : hi' = (b : Int)) (hab : a ≤ b) (hbc : b ≤ c) (W : World) :
    (Instr.slice ts (.slice A n c) (some (.int .i64 lo)) (some (.int .i64 hi')) none).run P W = .ok (.slice (if c = a then A else A.map (·.add a)) (b - a) (c - a)) W := by
  subst ha
  subst hb
  have h2 : (a : Int) ≤ (b : Int) := by omega
  have h3 : (b : Int) ≤ (c : Int) := by omega
  simp [Instr.slice, run_underlying hs, Instr.sliceBounds, run_sliceBound, sizeOf, typeInfo, hi, h1, hab, hbc]
theorem rb_part {w : World} {n : Nat} {A : Option Addr} {l : List UInt8} (h : RB w n A l) (a m c : Nat) (hc : l.length ≤ c) : RB w n (if c = a then A else A.map (·.add a)) ((l.drop a).take m) := fun hp => by
  by_cases e : c = a
  · simp at hp
    omega
  · rw [if_neg e]
    exact (h.drop a).take m hp

/-! ### For the walk -/
theorem wpList_append_ob {P : Program} {w : World} {ops : Array Oper} {rest : List Oper} {o : Oper} {a : Act} {Q : Exit → Act → World → Prop} (hgd : o.guard = none) (s x : Operand) (t : TypeId)
    (ho : o.op = .call { callee := .builtin .append, args := #[s, x], argTypes := #[t, t] })
    (base : Nat) (e : TypeId) (i : TypeInfo) (ht : P.underlying t = some (.slice e)) (hi : P.info? e = some i) (hz : i.zero = some (.int .u8 0)) (hs : i.size = 1) (hb : i.bytes = 1)
    (v : Value) (l : List UInt8) (hv : a.eval s = v) (h : OB w base e v l) (n : Nat) (A : Option Addr) (k : List UInt8) (m c : Nat) (hx : a.eval x = .slice A m c) (hk : k.length = m) (hr : RB w n A k) (hm : l.length + k.length ≤ 160000000000000) (hbase : base ≤ w.heap.size)
    (hK : ∀ v' w', OB w' base e v' (l ++ k) → w.grownBy w' v.ownBlock → True → wpList P ops Q rest (a.put o.dst v') w') : wpList P ops Q (o :: rest) a w := by
  refine wpList_plain hgd fun K hK' => ?_
  subst hk
  obtain ⟨v', w', hrun, h2, h3, h4⟩ := run_append_ob (P := P) w base t o.type e i ht hi hz hs hb v l h n A k c hr hm hbase
  unfold Oper.wp
  simp [execOp, ho, resolve, invoke, builtin, hv, hx, hrun, Result.andThen]
  exact hK' _ _ (hK v' w' h2 h3 h4)
theorem step_append_ob {P : Program} {w : World} {ops : Array Oper} {o : Oper} {a : Act} {K : Act → World → Prop} {Q : Exit → Act → World → Prop} {E : Prop} (hgd : Region.wanted o (yielded ops a.tmps) = true) (s x : Operand) (t : TypeId)
    (ho : o.op = .call { callee := .builtin .append, args := #[s, x], argTypes := #[t, t] })
    (base : Nat) (e : TypeId) (i : TypeInfo) (ht : P.underlying t = some (.slice e)) (hi : P.info? e = some i) (hz : i.zero = some (.int .u8 0)) (hs : i.size = 1) (hb : i.bytes = 1)
    (v : Value) (l : List UInt8) (hv : a.eval s = v) (h : OB w base e v l) (n : Nat) (A : Option Addr) (k : List UInt8) (m c : Nat) (hx : a.eval x = .slice A m c) (hk : k.length = m) (hr : RB w n A k) (hm : l.length + k.length ≤ 160000000000000) (hbase : base ≤ w.heap.size)
    (hK : ∀ v' w', OB w' base e v' (l ++ k) → w.grownBy w' v.ownBlock → True → K (a.put o.dst v') w') :
    if Region.wanted o (yielded ops a.tmps) = true then Oper.wp P o a w K Q else E := by
  rw [if_pos hgd]
  subst hk
  obtain ⟨v', w', hrun, h2, h3, h4⟩ := run_append_ob (P := P) w base t o.type e i ht hi hz hs hb v l h n A k c hr hm hbase
  unfold Oper.wp
  simp [execOp, ho, resolve, invoke, builtin, hv, hx, hrun, Result.andThen]
  exact hK v' w' h2 h3 h4
theorem wpList_append_ob_room {P : Program} {w : World} {ops : Array Oper} {rest : List Oper} {o : Oper} {a : Act} {Q : Exit → Act → World → Prop} (hgd : o.guard = none) (s x : Operand) (t : TypeId)
    (ho : o.op = .call { callee := .builtin .append, args := #[s, x], argTypes := #[t, t] })
    (base : Nat) (e : TypeId) (i : TypeInfo) (ht : P.underlying t = some (.slice e)) (hi : P.info? e = some i) (hs : i.size = 1)
    (g cap : Nat) (l : List UInt8) (hv : a.eval s = .slice (some ⟨g, 0, none⟩) l.length cap) (h : OB w base e (.slice (some ⟨g, 0, none⟩) l.length cap) l) (n : Nat) (A : Option Addr) (k : List UInt8) (m c : Nat) (hx : a.eval x = .slice A m c) (hk : k.length = m) (hr : RB w n A k) (hm : l.length + k.length ≤ cap)
    (hK : ∀ w', OB w' base e (.slice (some ⟨g, 0, none⟩) (l ++ k).length cap) (l ++ k) → w.grownBy w' (some g) → wpList P ops Q rest (a.put o.dst (.slice (some ⟨g, 0, none⟩) (l ++ k).length cap)) w') : wpList P ops Q (o :: rest) a w := by
  refine wpList_plain hgd fun K hK' => ?_
  subst hk
  obtain ⟨w', hrun, h2, h3⟩ := run_append_ob_room (P := P) w base t o.type e i ht hi hs g cap l h n A k c hr hm
  unfold Oper.wp
  simp [execOp, ho, resolve, invoke, builtin, hv, hx, hrun, Result.andThen]
  exact hK' _ _ (by simpa using hK w' h2 h3)

/-- Behind an append onto memory of the call's own nothing below has turned. -/
theorem Is.grown {w w' : World} {g : Nat} {t : TypeId} {cs : Array Value} {row : Option Nat} (h : Is w g t cs) (hg : w.grownBy w' row) (hr : ∀ k, row = some k → g < k) : Is w' g t cs :=
  (hg.block g h.lt (fun e => by have := hr g e.symm; omega)).trans h
theorem ob_build (w : World) (tb : TypeId) (b : UInt8) {g : Nat} (hg : g = w.heap.size) : OB (w.alloc (.cells #[B b] tb)) g tb (.slice (some ⟨g, 0, none⟩) 1 1) [b] := by
  subst hg
  exact ⟨rfl, .inr ⟨w.heap.size, 1, #[B b], rfl, Nat.le_refl _, heap_alloc_new w _, by simp, by simp [maxLen], rfl, rfl⟩⟩
theorem rb_build (w : World) (tb : TypeId) (b : UInt8) : RB (w.alloc (.cells #[B b] tb)) (w.alloc (.cells #[B b] tb)).heap.size (some ⟨w.heap.size, 0, none⟩) [b] := fun _ =>
  ⟨w.heap.size, 0, rfl, by simp, fun i x hi => by
    rw [At.newAt w #[B b] tb rfl, Nat.zero_add]
    cases i with
    | zero => simp at hi; subst hi; rfl
    | succ i => simp at hi⟩
theorem Fr.grown {w0 w w' : World} {n : Nat} {row : Option Nat} (h : Fr w0 n w) (hg : w.grownBy w' row) (hr : ∀ k, row = some k → w0.heap.size ≤ k) : Fr w0 n w' :=
  ⟨h.1.grown hg (by have := h.2; omega) hr, Nat.le_trans h.2 hg.size⟩
end Go.Fl
