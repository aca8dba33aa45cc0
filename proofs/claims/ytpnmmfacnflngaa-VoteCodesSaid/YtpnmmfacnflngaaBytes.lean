/-
  Byte strings in memory: what it is that a slice holds these bytes ('RB'), eight bytes as one number ('wordOf'), and how a slice of bytes that came in is opened.
-/
import Derived.Test.YtpnmmfacnflngaaBase
import Derived.Laws.CopyOwn
namespace Go.Fl
open Go.ChangeShapes Go.WideShapes Go.ChangeAt Go.RowKit

/-- A slice at A of these bytes, which lie below block n. -/
def RB (w : World) (n : Nat) (A : Option Addr) (l : List UInt8) : Prop :=
  0 < l.length → ∃ g off, A = some ⟨g, off, none⟩ ∧ g < n ∧ ∀ i b, l[i]? = some b → w.cell? ⟨g, off + i, none⟩ = some (B b)

theorem RB.nil (w : World) (n : Nat) (A : Option Addr) : RB w n A [] := fun h => absurd h (by simp)
theorem RB.keep {w w' : World} {n : Nat} {A : Option Addr} {l : List UInt8} (h : RB w n A l) (hb : Below n w w') : RB w' n A l := fun hp => by
  obtain ⟨g, off, rfl, hg, hc⟩ := h hp
  exact ⟨g, off, rfl, hg, fun i b hi => (hb.cell hg).trans (hc i b hi)⟩
theorem RB.mono {w : World} {n m : Nat} {A : Option Addr} {l : List UInt8} (h : RB w n A l) (hm : n ≤ m) : RB w m A l := fun hp => by
  obtain ⟨g, off, rfl, hg, hc⟩ := h hp
  exact ⟨g, off, rfl, by omega, hc⟩
theorem RB.drop {w : World} {n : Nat} {A : Option Addr} {l : List UInt8} (h : RB w n A l) (k : Nat) : RB w n (A.map (·.add k)) (l.drop k) := fun hp => by
  obtain ⟨g, off, rfl, hg, hc⟩ := h (by simp at hp; omega)
  refine ⟨g, off + k, by simp [add_plain], hg, fun i b hi => ?_⟩
  rw [List.getElem?_drop] at hi
  have := hc (k + i) b hi
  rw [Nat.add_assoc]
  exact this
theorem RB.take {w : World} {n : Nat} {A : Option Addr} {l : List UInt8} (h : RB w n A l) (k : Nat) : RB w n A (l.take k) := fun hp => by
  obtain ⟨g, off, rfl, hg, hc⟩ := h (by simp at hp; omega)
  refine ⟨g, off, rfl, hg, fun i b hi => hc i b ?_⟩
  rw [List.getElem?_take] at hi
  split at hi <;> simp_all

/-! ### A block that is known whole -/
def Is (w : World) (g : Nat) (t : TypeId) (cs : Array Value) : Prop := w.heap[g]? = some (.cells cs t (0, 0))
section
variable {w w' : World} {g : Nat} {t : TypeId} {cs : Array Value}
theorem Is.lt (h : Is w g t cs) : g < w.heap.size := by
  unfold Is at h
  exact (Array.getElem?_eq_some_iff.1 h).1
theorem Is.new (w : World) (t : TypeId) (cs : Array Value) : Is (w.alloc (.cells cs t)) w.heap.size t cs := heap_alloc_new w _
theorem Is.newAt (w : World) (t : TypeId) (cs : Array Value) {g : Nat} (hg : g = w.heap.size) : Is (w.alloc (.cells cs t)) g t cs := by subst hg; exact Is.new w t cs
theorem Is.old (h : Is w g t cs) (o : Obj) : Is (w.alloc o) g t cs := (Below.heap_alloc w o g h.lt).trans h
theorem Is.keep {n : Nat} (h : Is w g t cs) (hb : Below n w w') (hg : g < n) : Is w' g t cs := (hb.block g hg).trans h
theorem Is.next (h : Is w g t cs) (hb : Below w.heap.size w w') : Is w' g t cs := h.keep hb h.lt
theorem Is.drew (h : Is w g t cs) : Is w.drew g t cs := h
theorem Is.cell (h : Is w g t cs) : ∀ i, w.cell? ⟨g, i, none⟩ = cs[i]? := fun i => cell_of_row w g i cs t (0, 0) h
theorem Is.free (h : Is w g t cs) : ∀ i, w.frozen? ⟨g, i, none⟩ = false := fun i => frozen_of_row w g i cs t h
theorem Is.far (h : Is w g t cs) {p : Addr} (hp : g ≠ p.block) (u : Value) : Is (w.setCell p u) g t cs := (Below.heap_setCell w p u g hp).trans h
end
theorem Fr.setCell {w0 w : World} {n : Nat} (h : Fr w0 n w) {p : Addr} (hp : w0.heap.size ≤ p.block) (u : Value) : Fr w0 n (w.setCell p u) :=
  ⟨h.1.setCell hp u, by simpa [World.setCell] using h.2⟩
theorem fl_drewN (w : World) (n k : Nat) : Below n w (w.drewN k) := ⟨rfl, rfl, rfl, Nat.le_refl _, fun _ _ => rfl⟩
theorem Fr.drewN {w0 w : World} {n : Nat} (h : Fr w0 n w) (k : Nat) : Fr w0 n (w.drewN k) := h.next (fl_drewN _ _ _)
theorem Fr.step {w0 W w : World} {n m : Nat} (h : Fr w0 n W) (hb : Below m W w) (hm : w0.heap.size ≤ m) : Fr w0 n w :=
  ⟨h.1.trans (hb.mono hm), Nat.le_trans h.2 hb.size⟩
theorem Fr.le {w0 w : World} {n m : Nat} (h : Fr w0 n w) (hm : m ≤ n) : Fr w0 m w := ⟨h.1, by have := h.2; omega⟩

/-- A value of as many cells is stored over a whole block. -/
theorem wpList_store_is {P : Program} {w : World} {ops : Array Oper} {rest : List Oper} {o : Oper} {a : Act} {Q : Exit → Act → World → Prop} (hgd : o.guard = none) (ty : TypeId) (x y : Operand) (ho : o.op = .store ty x y)
    (g : Nat) (t : TypeId) (olds cs : Array Value) (hx : a.eval x = .pointer (some ⟨g, 0, none⟩)) (hy : a.eval y = .agg cs) (hz : Is w g t olds) (hs : cs.size = olds.size) (hi : (P.info? ty).map (·.size) = some cs.size) (h1 : cs.all (·.oneCell') = true)
    (h : ∀ w', Is w' g t cs → Below g w w' → wpList P ops Q rest (a.put o.dst undef) w') : wpList P ops Q (o :: rest) a w := by
  refine wpList_plain hgd fun K hK => ?_
  have hst := run_storeCells_at (P := P) g 0 t cs.toList 0 olds w hz (by simp; omega) (fun v hv => (Array.all_eq_true_iff_forall_mem.1 h1) v (by simpa using hv))
  have e : (olds.toList.take (0 + 0) ++ cs.toList ++ olds.toList.drop (0 + 0 + cs.toList.length)).toArray = cs := by
    rw [List.drop_eq_nil_of_le (by simp; omega)]
    simp
  rw [e] at hst
  have hrun : (storeVar ty ⟨g, 0, none⟩ (.agg cs)).run P w = .ok () (w.setRow g cs) := by
    cases hq : P.info? ty with
    | none => simp [hq] at hi
    | some i =>
      have hs' : cs.size = i.size := by simp [hq] at hi; omega
      simp [storeVar, sizeOf, typeInfo, hq, Value.cells, hs', hst]
  unfold Oper.wp execOp
  simp only [ho, hx, hy, Instr.storeAt, Instr.sureAddr, Sem.run_bind, Sem.run_pure, Result.andThen_ok, hrun]
  exact hK _ _ (h _ (setRow_heap w g _ _ t _ hz) (below_setRow (Below.refl _ _) (Nat.le_refl _) _))

/-- A result that lies in a block that is known whole. -/
theorem ret_is {P : Program} {fn : Func} {R : Ending → World → Prop} {a : Act} {w : World} {p : Tmp} {ty : TypeId} (h : fn.results = #[.cell p ty]) (g : Nat) (t : TypeId) (cs : Array Value) {d : TypeDesc}
    (hp : a.tmps.getD p undef = .pointer (some ⟨g, 0, none⟩)) (hz : Is w g t cs) (hu : P.underlying ty = some d) (hd : (match d with | .struct _ | .array _ _ => true | _ => false) = true) (hi : (P.info? ty).map (·.size) = some cs.size)
    (hdf : a.defers = []) (hR : R (.returned (.agg cs)) w) : bodyPost P fn R .ret a w :=
  bodyPost_ret (results_cell_row h a.tmps w g t cs (0, 0) d hp hz hu hd hi) hdf hR

theorem nmC_size (x : BitVec 64) : (nmC x).size = 8 := rfl
theorem nmC_one (x : BitVec 64) : (nmC x).all (·.oneCell') = true := by simp [Value.oneCell']

/-! ### Eight bytes as one number -/
def ofBytes (b0 b1 b2 b3 b4 b5 b6 b7 : UInt8) : BitVec 64 :=
  BitVec.ofNat 64 (b0.toNat * 72057594037927936 + b1.toNat * 281474976710656 + b2.toNat * 1099511627776 + b3.toNat * 4294967296 + b4.toNat * 16777216 + b5.toNat * 65536 + b6.toNat * 256 + b7.toNat)
theorem nb_ofBytes (b0 b1 b2 b3 b4 b5 b6 b7 : UInt8) :
    nb (ofBytes b0 b1 b2 b3 b4 b5 b6 b7) 0 = b0 ∧ nb (ofBytes b0 b1 b2 b3 b4 b5 b6 b7) 1 = b1 ∧ nb (ofBytes b0 b1 b2 b3 b4 b5 b6 b7) 2 = b2 ∧ nb (ofBytes b0 b1 b2 b3 b4 b5 b6 b7) 3 = b3 ∧
    nb (ofBytes b0 b1 b2 b3 b4 b5 b6 b7) 4 = b4 ∧ nb (ofBytes b0 b1 b2 b3 b4 b5 b6 b7) 5 = b5 ∧ nb (ofBytes b0 b1 b2 b3 b4 b5 b6 b7) 6 = b6 ∧ nb (ofBytes b0 b1 b2 b3 b4 b5 b6 b7) 7 = b7 := by
  have h0 := b0.toNat_lt
  have h1 := b1.toNat_lt
  have h2 := b2.toNat_lt
  have h3 := b3.toNat_lt
  have h4 := b4.toNat_lt
  have h5 := b5.toNat_lt
  have h6 := b6.toNat_lt
  have h7 := b7.toNat_lt
  refine ⟨?_, ?_, ?_, ?_, ?_, ?_, ?_, ?_⟩ <;> (apply UInt8.toNat_inj.1; unfold nb ofBytes; simp [BitVec.toNat_ofNat]; omega)

/-- The number of the first eight bytes, zeros behind the last one. -/
def wordOf (l : List UInt8) : BitVec 64 := ofBytes (l.getD 0 0) (l.getD 1 0) (l.getD 2 0) (l.getD 3 0) (l.getD 4 0) (l.getD 5 0) (l.getD 6 0) (l.getD 7 0)
theorem nb_wordOf (l : List UInt8) (i : Nat) (h : i < 8) : nb (wordOf l) i = l.getD i 0 := by
  obtain ⟨e0, e1, e2, e3, e4, e5, e6, e7⟩ := nb_ofBytes (l.getD 0 0) (l.getD 1 0) (l.getD 2 0) (l.getD 3 0) (l.getD 4 0) (l.getD 5 0) (l.getD 6 0) (l.getD 7 0)
  have : i = 0 ∨ i = 1 ∨ i = 2 ∨ i = 3 ∨ i = 4 ∨ i = 5 ∨ i = 6 ∨ i = 7 := by omega
  rcases this with rfl | rfl | rfl | rfl | rfl | rfl | rfl | rfl <;> assumption

theorem nmL_wordOf (l : List UInt8) : nmL (wordOf l) = (l ++ [0, 0, 0, 0, 0, 0, 0, 0]).take 8 := by
  apply List.ext_getElem?
  intro i
  by_cases h : i < 8
  · have e : (nmL (wordOf l))[i]? = some (nb (wordOf l) i) := by
      have : i = 0 ∨ i = 1 ∨ i = 2 ∨ i = 3 ∨ i = 4 ∨ i = 5 ∨ i = 6 ∨ i = 7 := by omega
      rcases this with rfl | rfl | rfl | rfl | rfl | rfl | rfl | rfl <;> rfl
    rw [e, nb_wordOf l i h, List.getElem?_take, if_pos h, List.getElem?_append]
    by_cases hl : i < l.length
    · simp [hl]
    · have hz : ∀ j, j < 8 → ([0, 0, 0, 0, 0, 0, 0, 0] : List UInt8)[j]? = some 0 := by
        intro j hj
        have : j = 0 ∨ j = 1 ∨ j = 2 ∨ j = 3 ∨ j = 4 ∨ j = 5 ∨ j = 6 ∨ j = 7 := by omega
        rcases this with rfl | rfl | rfl | rfl | rfl | rfl | rfl | rfl <;> rfl
      rw [if_neg hl, hz _ (by omega), List.getD_eq_getElem?_getD, List.getElem?_eq_none (by omega)]
      rfl
  · rw [List.getElem?_eq_none (by simp [nmL]; omega), List.getElem?_eq_none (by simp; omega)]

/-- Eight zero cells over which these bytes are copied. -/
theorem splice_word (l : List UInt8) : (splice (List.replicate 8 (B 0)) 0 ((l.take 8).map B)).toArray = nmC (wordOf l) := by
  have e : (nmC (wordOf l)) = ((nmL (wordOf l)).map B).toArray := rfl
  rw [e, nmL_wordOf]
  congr 1
  simp only [splice, List.take_zero, List.nil_append, Nat.zero_add, List.length_map, List.length_take]
  have hz : (List.replicate 8 (B 0)) = ([0, 0, 0, 0, 0, 0, 0, 0] : List UInt8).map B := rfl
  rw [hz, ← List.map_drop, ← List.map_append]
  congr 1
  apply List.ext_getElem?
  intro i
  simp only [List.getElem?_append, List.getElem?_take, List.getElem?_drop, List.length_take]
  have hz : ∀ j, j < 8 → ([0, 0, 0, 0, 0, 0, 0, 0] : List UInt8)[j]? = some 0 := by
    intro j hj
    have : j = 0 ∨ j = 1 ∨ j = 2 ∨ j = 3 ∨ j = 4 ∨ j = 5 ∨ j = 6 ∨ j = 7 := by omega
    rcases this with rfl | rfl | rfl | rfl | rfl | rfl | rfl | rfl <;> rfl
  by_cases h8 : i < 8
  · by_cases hl : i < l.length
    · rw [if_pos (by omega), if_pos h8, if_pos h8, if_pos hl]
    · rw [if_neg (by omega), if_pos h8, if_neg hl, hz _ (by omega), hz _ (by omega)]
  · rw [if_neg (by omega), if_neg h8, List.getElem?_eq_none (by simp; omega)]

/-! ### A slice of bytes that came in -/
section
variable {H : Type} {enc : TypeId × Value → H} {P : Program} {w : World}
theorem open_bytes {ts tb : TypeId} (hs : P.underlying ts = some (.slice tb)) (hb : P.underlying tb = some (.int .u8)) (hc : P.cellsOf tb = 1) (hby : P.bytesOf tb = 1)
    {base : Nat} {v : Value} {d : DataW H} {p : List MemPlace} (hok : Value.okWide P w .any base ts v) (h : DataW.Trod enc P w 0 (fun _ => true) true ts v d p) (hlt : ∀ x ∈ p, x.block < w.heap.size)
    {tys : List TypeId} {ds : List (DataW H)} (hsz : (DataW.weightsEach P tys ds).all (· ≤ reachBytes) = true) {j : Nat} (hj : tys[j]? = some ts) (hd : ds[j]? = some d) :
    ∃ A l c, v = .slice A l.length c ∧ l.length ≤ c ∧ c ≤ 140737488351232 ∧ RB w w.heap.size A l := by
  obtain ⟨a0, len, cap, rfl⟩ := okWide_slice hs hok
  obtain ⟨fuel, hf⟩ := h
  rcases open_ints hs hb hc hf with ⟨hcs, _⟩ | ⟨a, len', cap', zs, hcs, _, hl, hm, hz, hx, hcell, hwz⟩
  · simp [Value.cells] at hcs
    obtain ⟨rfl, rfl, rfl⟩ := hcs
    exact ⟨none, [], 0, rfl, by simp, by omega, RB.nil _ _ _⟩
  · simp [Value.cells] at hcs
    obtain ⟨rfl, rfl, rfl⟩ := hcs
    simp only [Prod.mk.injEq] at hx
    obtain ⟨rfl, rfl⟩ := hx
    simp only [if_true] at hz
    have hreach : cap ≤ 140737488351232 := by
      have := sized_slice hsz hj hd hs
      rw [hby] at this
      simp only [lits, List.length_map, List.length_take, List.length_drop, reachBytes] at this
      omega
    have hnum : ∀ n ∈ zs, 0 ≤ n ∧ n ≤ 255 := fun n hn => bounds_u8 (hwz n hn)
    have hB : ∀ i, i < zs.length → zs.getD i 0 = ub (UInt8.ofNat (zs.getD i 0).toNat) := fun i hi => by
      have h1 := hnum (zs.getD i 0) (by rw [List.getD_eq_getElem?_getD, List.getElem?_eq_getElem hi]; exact List.getElem_mem hi)
      unfold ub
      simp only [UInt8.toNat_ofNat']
      omega
    refine ⟨some a, (zs.take len).map (fun n => UInt8.ofNat n.toNat), cap, by simp; omega, by simp; omega, hreach, fun hp => ?_⟩
    have hp' : 0 < len := by simp at hp; omega
    obtain ⟨b, off, spot⟩ := a
    have hspot : spot = none := by simpa [Addr.add] using World.cell?_spot (hcell 0 (by omega))
    subst hspot
    refine ⟨b, off, rfl, hlt (.cell b off) (MemPlace.mem_row.2 ⟨0, by omega, by simp⟩), fun i x hi => ?_⟩
    rw [List.getElem?_map, List.getElem?_take] at hi
    have hil : i < len := by
      by_cases h : i < len
      · exact h
      · simp [h] at hi
    rw [if_pos hil, List.getElem?_eq_getElem (by omega)] at hi
    simp at hi
    have h1 := hcell i (by omega)
    rw [add_plain, hB i (by omega)] at h1
    rw [h1, ← hi, List.getD_eq_getElem?_getD, List.getElem?_eq_getElem (by omega)]
    rfl
end
end Go.Fl
