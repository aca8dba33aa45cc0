/-
  5 texts in one file: Names, Vals, Sp2, Make, Codec1.
-/
import Derived.Deep.Slices
import Derived.Laws.OwnMore
import Derived.Lib.SmallJoins
import Derived.Test.YtjghengkpbokaaaG2

/-
  Lists of names in memory: what it is that a slice holds these names ('RN'), a slice of names of the call's own ('ON'), how one that came in is opened, and append onto one of the call's own.
-/
namespace Go.Fl
open Go.ChangeShapes Go.WideShapes Go.ChangeAt Go.RowKit

/-- The cells of a list of names, one after the other. -/
def nsC (l : List (BitVec 64)) : List Value := l.flatMap fun x => (nmL x).map B
theorem nsC_len (l : List (BitVec 64)) : (nsC l).length = l.length * 8 := by
  induction l with
  | nil => rfl
  | cons x l ih =>
    have : nsC (x :: l) = (nmL x).map B ++ nsC l := rfl
    rw [this, List.length_append, ih, List.length_map, nmL_len, List.length_cons]
    omega
theorem nsC_append (l m : List (BitVec 64)) : nsC (l ++ m) = nsC l ++ nsC m := by simp [nsC]
theorem nsC_get (l : List (BitVec 64)) (i : Nat) (x : BitVec 64) (h : l[i]? = some x) (j : Nat) (hj : j < 8) : (nsC l)[i * 8 + j]? = (nmC x)[j]? := by
  induction l generalizing i with
  | nil => simp at h
  | cons y l ih =>
    have e : nsC (y :: l) = (nmL y).map B ++ nsC l := rfl
    have hl : ((nmL y).map B).length = 8 := by rw [List.length_map, nmL_len]
    cases i with
    | zero =>
      simp at h
      subst h
      rw [e, List.getElem?_append_left (by omega), Nat.zero_mul, Nat.zero_add]
      have : (nmC y) = ((nmL y).map B).toArray := rfl
      rw [this]
      simp
    | succ i =>
      rw [e, List.getElem?_append_right (by omega), hl]
      have : (i + 1) * 8 + j - 8 = i * 8 + j := by omega
      rw [this]
      exact ih i (by simpa using h)

/-- A slice at A of these names, which lie below block n. -/
def RN (w : World) (n : Nat) (A : Option Addr) (l : List (BitVec 64)) : Prop :=
  0 < l.length → ∃ g off, A = some ⟨g, off, none⟩ ∧ g < n ∧ ∀ i x, l[i]? = some x → ∀ j, j < 8 → w.cell? ⟨g, off + i * 8 + j, none⟩ = (nmC x)[j]?

section
variable {w w' : World} {n m : Nat} {A : Option Addr} {l : List (BitVec 64)}
theorem RN.nil (w : World) (n : Nat) (A : Option Addr) : RN w n A [] := fun h => absurd h (by simp)
theorem RN.keep (h : RN w n A l) (hb : Below n w w') : RN w' n A l := fun hp => by
  obtain ⟨g, off, rfl, hg, hc⟩ := h hp
  exact ⟨g, off, rfl, hg, fun i x hi j hj => (hb.cell hg).trans (hc i x hi j hj)⟩
theorem RN.mono (h : RN w n A l) (hm : n ≤ m) : RN w m A l := fun hp => by
  obtain ⟨g, off, rfl, hg, hc⟩ := h hp
  exact ⟨g, off, rfl, by omega, hc⟩
theorem RN.next (h : Hid (RN w w.heap.size A l)) (hb : Below w.heap.size w w') : Hid (RN w' w'.heap.size A l) := (h.out.keep hb).mono hb.size
theorem RN.drop (h : RN w n A l) (k : Nat) : RN w n (A.map (·.add (k * 8))) (l.drop k) := fun hp => by
  obtain ⟨g, off, rfl, hg, hc⟩ := h (by simp at hp; omega)
  refine ⟨g, off + k * 8, by simp [add_plain], hg, fun i x hi j hj => ?_⟩
  rw [List.getElem?_drop] at hi
  have := hc (k + i) x hi j hj
  have e : off + k * 8 + i * 8 + j = off + (k + i) * 8 + j := by omega
  rw [e]
  exact this
theorem RN.take (h : RN w n A l) (k : Nat) : RN w n A (l.take k) := fun hp => by
  obtain ⟨g, off, rfl, hg, hc⟩ := h (by simp at hp; omega)
  refine ⟨g, off, rfl, hg, fun i x hi => hc i x ?_⟩
  rw [List.getElem?_take] at hi
  split at hi <;> simp_all
/-- One name of the list, as a slice of its bytes. -/
theorem RN.rb (h : RN w n A l) {g off i : Nat} {x : BitVec 64} (hA : A = some ⟨g, off, none⟩) (hi : l[i]? = some x) : RB w n (some ⟨g, off + i * 8, none⟩) (nmL x) := fun _ => by
  have hl : 0 < l.length := by
    have := (List.getElem?_eq_some_iff.1 hi).1
    omega
  obtain ⟨g', off', e, hg, hc⟩ := h hl
  rw [hA] at e
  injection e with e
  injection e with e1 e2
  subst e1
  subst e2
  refine ⟨g, off + i * 8, rfl, hg, fun j b hj => ?_⟩
  have hj8 : j < 8 := by have := (List.getElem?_eq_some_iff.1 hj).1; rw [nmL_len] at this; exact this
  rw [hc i x hi j hj8]
  exact nmL_get x j b hj
theorem RN.at_ (h : RN w n A l) {i : Nat} {x : BitVec 64} (hi : l[i]? = some x) : ∃ g off, A = some ⟨g, off, none⟩ ∧ g < n ∧ ∀ j, j < 8 → w.cell? ⟨g, off + i * 8 + j, none⟩ = (nmC x)[j]? := by
  have hl : 0 < l.length := by
    have := (List.getElem?_eq_some_iff.1 hi).1
    omega
  obtain ⟨g, off, e, hg, hc⟩ := h hl
  exact ⟨g, off, e, hg, hc i x hi⟩
end

/-! ### Of the call's own -/
def ON (w : World) (base : Nat) (tn : TypeId) (v : Value) (l : List (BitVec 64)) : Prop := w.ownsRow base tn 8 v l.length (nsC l)
section
variable {w w' : World} {base : Nat} {tn : TypeId} {v : Value} {l : List (BitVec 64)}
theorem ON.nil (w : World) (base : Nat) (tn : TypeId) : ON w base tn (.slice none 0 0) [] := ⟨rfl, .inl ⟨rfl, rfl⟩⟩
theorem ON.form_n (h : ON w base tn v l) : ∃ A n c, v = .slice A n c ∧ Hid (n = l.length) ∧ l.length ≤ c ∧ c ≤ 9223372036854775807 ∧ Hid (RN w w.heap.size A l) := by
  rcases h.2 with ⟨rfl, h0⟩ | ⟨g, cap, cur, rfl, _, hh, hn, hm, _, ht⟩
  · have : l = [] := List.eq_nil_of_length_eq_zero h0
    subst this
    exact ⟨none, 0, 0, rfl, rfl, by simp, by omega, RN.nil _ _ _⟩
  · refine ⟨_, _, cap, rfl, rfl, hn, by simp only [maxLen] at hm; omega, fun _ => ⟨g, 0, rfl, (Array.getElem?_eq_some_iff.1 hh).1, fun i x hi j hj => ?_⟩⟩
    have hil : i < l.length := (List.getElem?_eq_some_iff.1 hi).1
    have h1 := nsC_get l i x hi j hj
    rw [← ht, List.getElem?_take, if_pos (by omega)] at h1
    rw [cell_of_row w g (0 + i * 8 + j) cur tn (0, 0) hh, Nat.zero_add, ← h1]
    simp
theorem ON.keep (h : ON w base tn v l) (hb : Below w.heap.size w w') : ON w' base tn v l := by
  refine ⟨h.1, ?_⟩
  rcases h.2 with h2 | ⟨g, cap, cur, hv, hg, hh, r⟩
  · exact Or.inl h2
  · exact Or.inr ⟨g, cap, cur, hv, hg, (hb.block g (Array.getElem?_eq_some_iff.1 hh).1).trans hh, r⟩
theorem ON.own (h : ON w base tn v l) : ∀ k, v.ownBlock = some k → base ≤ k := fun k hk => by
  rcases h.2 with ⟨rfl, _⟩ | ⟨g, cap, cur, rfl, hg, _⟩
  · simp [Value.ownBlock] at hk
  · simp [Value.ownBlock] at hk
    omega
end

theorem on_base {w : World} {base m : Nat} {tn : TypeId} {v : Value} {l : List (BitVec 64)} (h : ON w base tn v l) (hm : m ≤ base) : ON w m tn v l := by
  refine ⟨h.1, ?_⟩
  rcases h.2 with h2 | ⟨g, cap, cur, hv, hg, r⟩
  · exact Or.inl h2
  · exact Or.inr ⟨g, cap, cur, hv, by omega, r⟩

/-- append of one name that lies in a new block. -/
theorem wpList_append_on {P : Program} {w : World} {ops : Array Oper} {rest : List Oper} {o : Oper} {a : Act} {Q : Exit → Act → World → Prop} (hgd : o.guard = none) (s x : Operand) (t : TypeId)
    (ho : o.op = .call { callee := .builtin .append, args := #[s, x], argTypes := #[t, t] })
    (base : Nat) (e : TypeId) (i : TypeInfo) (z : Value) (ht : P.underlying t = some (.slice e)) (hi : P.info? e = some i) (hz : i.zero = some z) (hzs : z.cells.size = 8) (hs : i.size = 8) (hb : i.bytes = 8)
    (v : Value) (l : List (BitVec 64)) (hv : a.eval s = v) (h : ON w base e v l) (n : Nat) (ad : Addr) (m : Nat) (c : Nat) (y : BitVec 64) (hx : a.eval x = .slice (some ad) m c) (hm1 : m = 1) (hr : RN w n (some ad) [y]) (hm : l.length + 1 ≤ 17592186044416) (hbase : base ≤ w.heap.size)
    (hK : ∀ v' w', ON w' base e v' (l ++ [y]) → w.grownBy w' v.ownBlock → (v'.ownBlock = v.ownBlock ∨ v'.ownBlock = some w.heap.size) → wpList P ops Q rest (a.put o.dst v') w') : wpList P ops Q (o :: rest) a w := by
  subst hm1
  refine wpList_append_own_at w hgd s x t ho base e i z 8 8 ht hi hz hs hb hzs (by omega) v l.length (nsC l) hv h ad 1 c ((nmL y).map B) hx (by rw [List.length_map, nmL_len]) ?_ (bytes_one _) (by simp only [maxLen]; omega) (by omega) hbase ?_
  · intro j u hu
    obtain ⟨g, off, e1, _, hc⟩ := hr (by simp)
    injection e1 with e1
    subst e1
    have hj : j < 8 := by have := (List.getElem?_eq_some_iff.1 hu).1; rw [List.length_map, nmL_len] at this; exact this
    have := hc 0 y rfl j hj
    rw [add_plain]
    rw [Nat.zero_mul, Nat.add_zero] at this
    rw [this]
    exact nmC_list y j u hu
  · intro v' w' h1 h2 _ h4
    refine hK v' w' ?_ h2 h4
    have e2 : nsC (l ++ [y]) = nsC l ++ (nmL y).map B := by rw [nsC_append]; simp [nsC]
    unfold ON
    rw [e2, List.length_append]
    exact h1

/-- A name in a new block, as a slice of one. -/
theorem rn_build (w : World) (tn : TypeId) (y : BitVec 64) : RN (w.alloc (.cells (nmC y) tn)) (w.alloc (.cells (nmC y) tn)).heap.size (some ⟨w.heap.size, 0, none⟩) [y] := fun _ =>
  ⟨w.heap.size, 0, rfl, by simp, fun i x hi j _ => by
    cases i with
    | zero =>
      simp at hi
      subst hi
      rw [Nat.zero_mul, Nat.add_zero, Nat.zero_add]
      exact At.new w (nmC y) tn j
    | succ i => simp at hi⟩

/-! ### A slice of names that came in -/
section
variable {H : Type} {enc : TypeId × Value → H} {P : Program} {w : World}
theorem open_names {ts tn tb : TypeId} (hs : P.underlying ts = some (.slice tn)) (hn : P.underlying tn = some (.array 8 tb)) (hb : P.underlying tb = some (.int .u8)) (hc : P.cellsOf tb = 1) (hs8 : P.cellsOf tn = 8) (hby : P.bytesOf tn = 8)
    {base : Nat} {v : Value} {d : DataW H} {p : List MemPlace} (hok : Value.okWide P w .any base ts v) (h : DataW.Trod enc P w 0 (fun _ => true) true ts v d p) (hlt : ∀ x ∈ p, x.block < w.heap.size)
    {tys : List TypeId} {ds : List (DataW H)} (hsz : (DataW.weightsEach P tys ds).all (· ≤ reachBytes) = true) {j : Nat} (hj : tys[j]? = some ts) (hd : ds[j]? = some d) :
    ∃ A l c, v = .slice A l.length c ∧ l.length ≤ c ∧ c ≤ 17592186044160 ∧ RN w w.heap.size A l := by
  obtain ⟨a0, len, cap, rfl⟩ := okWide_slice hs hok
  obtain ⟨fuel, hf⟩ := h
  rcases Deep.open_slice hs hf with ⟨hcs, _⟩ | ⟨a, len', cap', m, n, D, Pl, hcs, _, hl, hm, hmm, hx, hel⟩
  · simp [Value.cells] at hcs
    obtain ⟨rfl, rfl, rfl⟩ := hcs
    exact ⟨none, [], 0, rfl, by simp, by omega, RN.nil _ _ _⟩
  · simp [Value.cells] at hcs
    obtain ⟨rfl, rfl, rfl⟩ := hcs
    simp only [Prod.mk.injEq] at hx
    obtain ⟨rfl, rfl⟩ := hx
    simp only [if_true] at hmm
    have hreach : cap ≤ 17592186044160 := by
      have := sized_slice hsz hj hd hs
      rw [hby] at this
      simp only [List.length_map, List.length_range, reachBytes] at this
      omega
    rw [hs8] at hel
    obtain ⟨f, hfn⟩ := Deep.choose_lt (p := fun i x => w.cells? 0 (a.add (i * 8)) 8 = some (nmC x).toList) (n := len) (fun i hi => by
      obtain ⟨cs', h1, h2⟩ := hel i (by omega)
      obtain ⟨x, rfl, _⟩ := trod_name hn hb hc hs8 h2
      exact ⟨x, h1⟩)
    refine ⟨some a, (List.range len).map f, cap, by simp, by simp; omega, hreach, fun hp => ?_⟩
    have hp' : 0 < len := by simpa using hp
    obtain ⟨b, off, spot⟩ := a
    have h0 := hfn 0 hp'
    obtain ⟨_, _, hc0⟩ := World.cells?_some h0
    have hspot : spot = none := by
      have := hc0 0 (by omega)
      simp [Addr.add] at this
      exact World.cell?_spot this
    subst hspot
    refine ⟨b, off, rfl, hlt (.cell b off) (by
      rw [List.mem_append]
      exact Or.inl (MemPlace.mem_row.2 ⟨0, by rw [hs8]; omega, by simp⟩)), fun i x hi j hj => ?_⟩
    have hil : i < len := by
      have := (List.getElem?_eq_some_iff.1 hi).1
      simpa using this
    have hx : f i = x := by simpa [hil] using hi
    obtain ⟨_, _, hci⟩ := World.cells?_some (hfn i hil)
    have := hci j hj
    rw [add_plain, add_plain] at this
    rw [this, hx]
    simp
end
end Go.Fl

/-
  Values that are slices of bytes or of names ('VB', 'VN'); numbers with a sign ('I64'); lists of names compared, made and cut.
-/
namespace Go.Fl
open Go.ChangeShapes Go.WideShapes Go.ChangeAt Go.RowKit

/-- This value is a slice of these bytes. -/
def VB (w : World) (v : Value) (l : List UInt8) : Prop := ∃ A c, v = .slice A l.length c ∧ l.length ≤ c ∧ c ≤ 9223372036854775807 ∧ RB w w.heap.size A l
/-- This value is a slice of these names. -/
def VN (w : World) (v : Value) (l : List (BitVec 64)) : Prop := ∃ A c, v = .slice A l.length c ∧ l.length ≤ c ∧ c ≤ 9223372036854775807 ∧ RN w w.heap.size A l
section
variable {w w' : World} {v : Value} {l : List UInt8} {m : List (BitVec 64)} {base : Nat} {t : TypeId}
theorem VB.next (h : VB w v l) (hb : Below w.heap.size w w') : VB w' v l := by
  obtain ⟨A, c, rfl, h1, h2, h3⟩ := h
  exact ⟨A, c, rfl, h1, h2, (h3.keep hb).mono hb.size⟩
theorem VN.next (h : VN w v m) (hb : Below w.heap.size w w') : VN w' v m := by
  obtain ⟨A, c, rfl, h1, h2, h3⟩ := h
  exact ⟨A, c, rfl, h1, h2, (h3.keep hb).mono hb.size⟩
theorem VB.nil (w : World) : VB w (.slice none 0 0) [] := ⟨none, 0, rfl, by simp, by omega, RB.nil _ _ _⟩
theorem VN.nil (w : World) : VN w (.slice none 0 0) [] := ⟨none, 0, rfl, by simp, by omega, RN.nil _ _ _⟩
theorem VB.mk {A : Option Addr} {c : Nat} (h : RB w w.heap.size A l) (h1 : l.length ≤ c) (h2 : c ≤ 140737488351232) : VB w (.slice A l.length c) l := ⟨A, c, rfl, h1, by omega, h⟩
theorem VN.mk {A : Option Addr} {c : Nat} (h : RN w w.heap.size A m) (h1 : m.length ≤ c) (h2 : c ≤ 17592186044160) : VN w (.slice A m.length c) m := ⟨A, c, rfl, h1, by omega, h⟩
theorem VB.form_n (h : VB w v l) : ∃ A n c, v = .slice A n c ∧ Hid (n = l.length) ∧ l.length ≤ c ∧ c ≤ 9223372036854775807 ∧ Hid (RB w w.heap.size A l) := by
  obtain ⟨A, c, rfl, h1, h2, h3⟩ := h
  exact ⟨A, _, c, rfl, Lib.hid rfl, h1, h2, Lib.hid h3⟩
theorem VN.form_n (h : VN w v m) : ∃ A n c, v = .slice A n c ∧ Hid (n = m.length) ∧ m.length ≤ c ∧ c ≤ 9223372036854775807 ∧ Hid (RN w w.heap.size A m) := by
  obtain ⟨A, c, rfl, h1, h2, h3⟩ := h
  exact ⟨A, _, c, rfl, Lib.hid rfl, h1, h2, Lib.hid h3⟩
theorem OB.vb (h : OB w base t v l) : VB w v l := h.form
theorem ON.vn (h : ON w base t v m) : VN w v m := by
  obtain ⟨A, n, c, rfl, hn, h1, h2, h3⟩ := h.form_n
  have := hn.out
  subst this
  exact ⟨A, c, rfl, h1, h2, h3.out⟩
end

/-- A 64 bit number with its sign. -/
def I64 (n : Int) : Prop := -9223372036854775808 ≤ n ∧ n ≤ 9223372036854775807

def nsEq (l m : List (BitVec 64)) : Bool := decide (l = m)
theorem nsEq_self (l : List (BitVec 64)) : nsEq l l = true := by simp [nsEq]
theorem take_snoc {α : Type} (l : List α) (k : Nat) (x : α) (h : l[k]? = some x) : l.take k ++ [x] = l.take (k + 1) := by
  rw [List.take_add_one, h]
  rfl
theorem made_names (w : World) {P : Program} {ts tb : TypeId} {i : TypeInfo} (hs : P.underlying ts = some (.slice tb)) (hi : P.info? tb = some i) (hz0 : i.zero = some (nm 0)) (hz1 : i.size = 8) (hz2 : i.bytes = 8) (k : Nat) (hk : k ≤ 70000) {X : Int} (hX : (k : Int) = X) :
    (Instr.makeSlice ts (.int .i64 X) (.int .i64 X)).run P w = .ok (.slice (some ⟨w.heap.size, 0, none⟩) k k) (w.alloc (.cells (madeCells (nmC 0) (k * 8)) tb)) := by
  subst hX
  have h := run_make (P := P) w ts tb i (nm 0) hs hi hz0 .i64 .i64 (k : Int) (k : Int) (by omega) (Int.le_refl _) (by rw [hz2]; omega) (by omega)
  have e : ((k : Nat) : Int).toNat = k := by omega
  rw [e, hz1] at h
  exact h
theorem made_at (k i j : Nat) (hi : i < k) (hj : j < 8) : (madeCells (nmC 0) (k * 8))[i * 8 + j]? = (nmC 0)[j]? := by
  have hlt : i * 8 + j < k * 8 := by omega
  have hm : (i * 8 + j) % 8 = j := by omega
  have hz : (nmC (0 : BitVec 64)).size = 8 := rfl
  unfold madeCells
  rw [Array.getElem?_map, Array.getElem?_range, if_pos hlt, Option.map_some, hz, hm]
  have hj' : j < (nmC (0 : BitVec 64)).size := hj
  rw [Array.getElem?_eq_getElem hj', getElem!_pos (nmC (0 : BitVec 64)) j hj']
theorem vn_made (w : World) (tn : TypeId) (k : Nat) (hk : k ≤ 9223372036854775807) : VN (w.alloc (.cells (madeCells (nmC 0) (k * 8)) tn)) (.slice (some ⟨w.heap.size, 0, none⟩) k k) (List.replicate k 0) :=
  ⟨some ⟨w.heap.size, 0, none⟩, k, by simp, by simp, hk, fun _ => ⟨w.heap.size, 0, rfl, by simp, fun i b hi j hj => by
    rw [List.getElem?_replicate] at hi
    split at hi
    · rename_i h
      cases hi
      rw [Nat.zero_add, (Is.new w tn _).cell (i * 8 + j), made_at k i j h hj]
    · cases hi⟩⟩

/-- The bytes of names, one after the other. -/
def nsB (l : List (BitVec 64)) : List UInt8 := l.flatMap nmL
theorem nsB_len (l : List (BitVec 64)) : (nsB l).length = l.length * 8 := by
  induction l with
  | nil => rfl
  | cons x l ih =>
    have : nsB (x :: l) = nmL x ++ nsB l := rfl
    rw [this, List.length_append, ih, nmL_len, List.length_cons]
    omega
theorem nsB_snoc (l : List (BitVec 64)) (k : Nat) (x : BitVec 64) (h : l[k]? = some x) : nsB (l.take k) ++ nmL x = nsB (l.take (k + 1)) := by
  rw [List.take_add_one, h]
  simp [nsB]
/-- A number, taken modulo a length. -/
theorem index_mod (t : Int) (n : Nat) (h : 0 < n) (hn : n ≤ 1000000) : ∃ k : Nat, k < n ∧ wrap64 ((IntKind.u64.wrap t).tmod (n : Int)) = (k : Int) := by
  have h1 : 0 ≤ IntKind.u64.wrap t := by rw [IntKind.wrap_u64]; omega
  rw [Int.tmod_eq_emod_of_nonneg h1]
  have h2 := Int.emod_nonneg (IntKind.u64.wrap t) (show (n : Int) ≠ 0 by omega)
  have h3 := Int.emod_lt_of_pos (IntKind.u64.wrap t) (show (0 : Int) < n by omega)
  refine ⟨(IntKind.u64.wrap t % (n : Int)).toNat, by omega, ?_⟩
  unfold wrap64
  omega

/-! ### Lists of names, cut -/
/-- l[:k] -/
theorem run_names_to {P : Program} {ts te : TypeId} {i : TypeInfo} (hs : P.underlying ts = some (.slice te)) (hi : P.info? te = some i) (_h1 : i.size = 8) (g off n c k : Nat) {X : Int} (hX : Hid (X = (k : Int))) (hk : k ≤ n) (hc : n ≤ c) (W : World) :
    (Instr.slice ts (.slice (some ⟨g, off, none⟩) n c) none (some (.int .i64 X)) none).run P W = .ok (.slice (some ⟨g, off, none⟩) k c) W := by
  have hx := hX.out
  subst hx
  have h3 : (k : Int) ≤ (c : Int) := by omega
  simp [Instr.slice, run_underlying hs, Instr.sliceBounds, run_sliceBound, sizeOf, typeInfo, hi, h3, add_plain]
/-- l[k:] -/
theorem run_names_from {P : Program} {ts te : TypeId} {i : TypeInfo} (hs : P.underlying ts = some (.slice te)) (hi : P.info? te = some i) (h1 : i.size = 8) (g off n c k : Nat) {X : Int} (hX : Hid (X = (k : Int))) (hk : k < n) (hc : n ≤ c) (W : World) :
    (Instr.slice ts (.slice (some ⟨g, off, none⟩) n c) (some (.int .i64 X)) none none).run P W = .ok (.slice (some ⟨g, off + k * 8, none⟩) (n - k) (c - k)) W := by
  have hx := hX.out
  subst hx
  have h3 : (k : Int) ≤ (n : Int) := by omega
  have h5 : ¬ c = k := by omega
  simp [Instr.slice, run_underlying hs, Instr.sliceBounds, run_sliceBound, sizeOf, typeInfo, hi, h1, h3, h5, add_plain]
theorem VN.take {w : World} {A : Option Addr} {c k : Nat} {l : List (BitVec 64)} (h : RN w w.heap.size A l) (hk : k ≤ l.length) (hc : l.length ≤ c) (hm : c ≤ 9223372036854775807) : VN w (.slice A k c) (l.take k) :=
  ⟨A, c, by rw [List.length_take, Nat.min_eq_left hk], by rw [List.length_take, Nat.min_eq_left hk]; omega, hm, h.take k⟩
theorem VN.drop {w : World} {g off c k : Nat} {l : List (BitVec 64)} (h : RN w w.heap.size (some ⟨g, off, none⟩) l) (hk : k ≤ l.length) (hc : l.length ≤ c) (hm : c ≤ 9223372036854775807) : VN w (.slice (some ⟨g, off + k * 8, none⟩) (l.length - k) (c - k)) (l.drop k) :=
  ⟨_, c - k, by rw [List.length_drop], by rw [List.length_drop]; omega, by omega, by have := h.drop k; simpa [add_plain] using this⟩
end Go.Fl

/-
  What package codec promises, as six functions of lists ('appBytesF' and its like) and as a contract of six Go functions ('CodecS').
-/
namespace Go.Fl
open Go.ChangeShapes Go.WideShapes Go.ChangeAt Go.RowKit

/-- The k lowest bytes of a number, the highest first. -/
def tailB (x : BitVec 64) (k : Nat) : List UInt8 := (nmL x).drop (8 - k)
theorem tailB_len (x : BitVec 64) (k : Nat) (h : k ≤ 8) : (tailB x k).length = k := by
  simp [tailB, nmL_len]
  omega
theorem nmL_at (x : BitVec 64) (i : Nat) (h : i < 8) : (nmL x)[i]? = some (nb x i) := by
  have : i = 0 ∨ i = 1 ∨ i = 2 ∨ i = 3 ∨ i = 4 ∨ i = 5 ∨ i = 6 ∨ i = 7 := by omega
  rcases this with rfl | rfl | rfl | rfl | rfl | rfl | rfl | rfl <;> rfl
theorem tailB_step (x : BitVec 64) (k j : Nat) (hk : k ≤ 8) (h0 : 0 < j) (hj : j ≤ k) : (tailB x k).take (k - j) ++ [nb x (8 - j)] = (tailB x k).take (k - (j - 1)) := by
  have e : k - (j - 1) = (k - j) + 1 := by omega
  rw [e, List.take_add_one, tailB, List.getElem?_drop, nmL_at x _ (by omega)]
  have e2 : 8 - k + (k - j) = 8 - j := by omega
  rw [e2]
  rfl
/-- A width as it counts. -/
def clampW (n : Int) : Nat := (max 0 (min n 8)).toNat

theorem clampW_cases (n : Int) : (n ≤ 0 ∧ clampW n = 0) ∨ (8 ≤ n ∧ clampW n = 8) ∨ (0 < n ∧ n < 8 ∧ (clampW n : Int) = n) := by
  unfold clampW
  omega

/-- What a function that returns bytes of its own answers. -/
def RetOB (w : World) (tb : TypeId) (l : List UInt8) (e : Ending) (w' : World) : Prop := ∃ v, e = .returned v ∧ OB w' w.heap.size tb v l ∧ Below w.heap.size w w'

/-- What a function that returns bytes of its own and true answers. -/
def RetOBok (w : World) (tb : TypeId) (l : List UInt8) (e : Ending) (w' : World) : Prop := ∃ v, e = .returned (.tuple #[v, .bool true]) ∧ OB w' w.heap.size tb v l ∧ Below w.heap.size w w'
/-- What a function that returns bytes of its own, an offset and true answers. -/
def RetOBat (w : World) (tb : TypeId) (l : List UInt8) (n : Nat) (e : Ending) (w' : World) : Prop := ∃ v, e = .returned (.tuple #[v, .int .i64 n, .bool true]) ∧ OB w' w.heap.size tb v l ∧ Below w.heap.size w w'
theorem iu_ofn (n : Nat) (h : n < 18446744073709551616) : iu (ofn n) = (n : Int) := by
  unfold iu ofn
  rw [BitVec.toNat_ofNat]
  omega
/-- The length that two bytes at an offset spell. -/
def lenAt (l : List UInt8) (q : Nat) : Nat := (beI ((l.drop q).take 2)).toNat
theorem lenAt_iu (l : List UInt8) (q : Nat) (h : q + 2 ≤ l.length) : iu (uintV ((l.drop q).take 2)) = (lenAt l q : Int) ∧ lenAt l q ≤ 65535 := by
  have h1 := part_len l q 2 h
  have h2 := beI_range ((l.drop q).take 2)
  rw [h1] at h2
  rw [uintV_iu _ (by omega)]
  unfold lenAt
  omega

/-- The number that one byte at an offset spells. -/
def cntAt (l : List UInt8) (q : Nat) : Nat := (beI ((l.drop q).take 1)).toNat
theorem cntAt_iu (l : List UInt8) (q : Nat) (h : q + 1 ≤ l.length) : iu (uintV ((l.drop q).take 1)) = (cntAt l q : Int) ∧ cntAt l q ≤ 255 := by
  have h1 := part_len l q 1 h
  have h2 := beI_range ((l.drop q).take 1)
  rw [h1] at h2
  rw [uintV_iu _ (by omega)]
  unfold cntAt
  omega
/-- M names from an offset on. -/
def namesAt (l : List UInt8) (p M : Nat) : List (BitVec 64) := (List.range M).map fun i => uintV ((l.drop (p + 8 * i)).take 8)
theorem namesAt_len (l : List UInt8) (p M : Nat) : (namesAt l p M).length = M := by simp [namesAt]
theorem namesAt_snoc (l : List UInt8) (p k : Nat) : namesAt l p k ++ [uintV ((l.drop (p + 8 * k)).take 8)] = namesAt l p (k + 1) := by
  simp [namesAt, List.range_succ]
/-- What a function that returns names of its own, an offset and true answers. -/
def RetONat (w : World) (tn : TypeId) (l : List (BitVec 64)) (n : Nat) (e : Ending) (w' : World) : Prop := ∃ v, e = .returned (.tuple #[v, .int .i64 n, .bool true]) ∧ ON w' w.heap.size tn v l ∧ Below w.heap.size w w'

def uintF (l : List UInt8) (p n : Int) : BitVec 64 × Bool :=
  if 1 ≤ n ∧ n ≤ 8 ∧ 0 ≤ p ∧ p + n ≤ (l.length : Int) then (uintV ((l.drop p.toNat).take n.toNat), true) else (0, false)
def appUintF (l : List UInt8) (x : BitVec 64) (n : Int) : List UInt8 := l ++ tailB x (clampW n)
def appBytesF (l m : List UInt8) : List UInt8 × Bool := if m.length ≤ 65535 then (l ++ tailB (ofn m.length) 2 ++ m, true) else ([], false)
def bytesF (l : List UInt8) (p : Int) : List UInt8 × Int × Bool :=
  if 0 ≤ p ∧ p + 2 ≤ (l.length : Int) ∧ p + 2 + (lenAt l p.toNat : Int) ≤ (l.length : Int) then ((l.drop (p.toNat + 2)).take (lenAt l p.toNat), p + 2 + (lenAt l p.toNat : Int), true) else ([], 0, false)
def appNamesF (l : List UInt8) (m : List (BitVec 64)) : List UInt8 × Bool := if m.length ≤ 255 then (l ++ tailB (ofn m.length) 1 ++ nsB m, true) else ([], false)
def namesF (l : List UInt8) (p : Int) : List (BitVec 64) × Int × Bool :=
  if 0 ≤ p ∧ p + 1 ≤ (l.length : Int) ∧ p + 1 + 8 * (cntAt l p.toNat : Int) ≤ (l.length : Int) then (namesAt l (p.toNat + 1) (cntAt l p.toNat), p + 1 + 8 * (cntAt l p.toNat : Int), true) else ([], 0, false)

def RetB (w : World) (tb : TypeId) (r : List UInt8 × Bool) (e : Ending) (w' : World) : Prop :=
  ∃ v, e = .returned (.tuple #[v, .bool r.2]) ∧ OB w' w.heap.size tb v r.1 ∧ Below w.heap.size w w'
def RetBA (w : World) (tb : TypeId) (r : List UInt8 × Int × Bool) (e : Ending) (w' : World) : Prop :=
  ∃ v, e = .returned (.tuple #[v, .int .i64 r.2.1, .bool r.2.2]) ∧ OB w' w.heap.size tb v r.1 ∧ Below w.heap.size w w'
def RetNA (w : World) (tn : TypeId) (r : List (BitVec 64) × Int × Bool) (e : Ending) (w' : World) : Prop :=
  ∃ v, e = .returned (.tuple #[v, .int .i64 r.2.1, .bool r.2.2]) ∧ ON w' w.heap.size tn v r.1 ∧ Below w.heap.size w w'

/-- Six functions that keep chapter 2. -/
structure CodecS (P : Program) (tb tn : TypeId) (fAU fU fAB fB fAN fN : FuncId) : Prop where
  appUint : ∀ (w : World) (v : Value) (l : List UInt8) (x : BitVec 64) (n : Int), VB w v l → l.length + 8 ≤ 160000000000000 → I64 n →
    Calls P fAU #[v, U x, .int .i64 n] w (RetOB w tb (appUintF l x n))
  uint : ∀ (w : World) (v : Value) (l : List UInt8) (p n : Int), VB w v l → l.length ≤ 281474976710656 → I64 p → I64 n →
    Calls P fU #[v, .int .i64 p, .int .i64 n] w fun e w' => e = .returned (.tuple #[U (uintF l p n).1, .bool (uintF l p n).2]) ∧ Below w.heap.size w w'
  appBytes : ∀ (w : World) (v u : Value) (l m : List UInt8), VB w v l → VB w u m → l.length + 65545 ≤ 160000000000000 → m.length ≤ 281474976710656 →
    Calls P fAB #[v, u] w (RetB w tb (appBytesF l m))
  bytes : ∀ (w : World) (v : Value) (l : List UInt8) (p : Int), VB w v l → l.length ≤ 281474976710656 → I64 p →
    Calls P fB #[v, .int .i64 p] w (RetBA w tb (bytesF l p))
  appNames : ∀ (w : World) (v u : Value) (l : List UInt8) (m : List (BitVec 64)), VB w v l → VN w u m → l.length + 65545 ≤ 160000000000000 → m.length ≤ 281474976710656 →
    Calls P fAN #[v, u] w (RetB w tb (appNamesF l m))
  names : ∀ (w : World) (v : Value) (l : List UInt8) (p : Int), VB w v l → l.length ≤ 281474976710656 → I64 p →
    Calls P fN #[v, .int .i64 p] w (RetNA w tn (namesF l p))

theorem namesF_len (l : List UInt8) (p : Int) : (namesF l p).1.length ≤ 255 := by
  unfold namesF
  split
  · rename_i h
    have := (cntAt_iu l p.toNat (by omega)).2
    simpa [namesAt_len] using this
  · simp
theorem appBytesF_len (l m : List UInt8) : (appBytesF l m).1.length ≤ l.length + 65537 := by
  unfold appBytesF
  split
  · have := tailB_len (ofn m.length) 2 (by omega)
    simp
    omega
  · simp
theorem appNamesF_len (l : List UInt8) (m : List (BitVec 64)) : (appNamesF l m).1.length ≤ l.length + 2041 := by
  unfold appNamesF
  split
  · have := tailB_len (ofn m.length) 1 (by omega)
    have := nsB_len m
    simp
    omega
  · simp
theorem appUintF_len (l : List UInt8) (x : BitVec 64) (n : Int) : (appUintF l x n).length ≤ l.length + 8 := by
  unfold appUintF
  have h := clampW_cases n
  have := tailB_len x (clampW n) (by omega)
  simp
  omega
theorem beI_cons (b : UInt8) (l : List UInt8) (a : Int) : (b :: l).foldl (fun a b => a * 256 + ub b) a = l.foldl (fun a b => a * 256 + ub b) (a * 256 + ub b) := rfl
/-- The last bytes of a number spell its rest. -/
theorem beI_tailB (x : BitVec 64) (k : Nat) (h : k ≤ 8) : beI (tailB x k) = ((x.toNat % 2 ^ (8 * k) : Nat) : Int) := by
  have hlt := x.isLt
  have hk : k = 0 ∨ k = 1 ∨ k = 2 ∨ k = 3 ∨ k = 4 ∨ k = 5 ∨ k = 6 ∨ k = 7 ∨ k = 8 := by omega
  rcases hk with rfl | rfl | rfl | rfl | rfl | rfl | rfl | rfl | rfl <;>
    (simp only [tailB, nmL, List.drop_zero, List.drop_succ_cons, Nat.sub_self, Nat.reduceSub, beI, List.foldl_cons, List.foldl_nil, ub_nb]; simp; try omega)

theorem uintV_tailB (x : BitVec 64) (k : Nat) (h : k ≤ 8) : uintV (tailB x k) = BitVec.ofNat 64 (x.toNat % 2 ^ (8 * k)) := by
  unfold uintV
  rw [beI_tailB x k h, BitVec.ofInt_natCast]
theorem uintV_nmL (x : BitVec 64) : uintV (nmL x) = x := by
  have h := uintV_tailB x 8 (Nat.le_refl _)
  have e : tailB x 8 = nmL x := rfl
  rw [e] at h
  rw [h]
  have := x.isLt
  apply BitVec.eq_of_toNat_eq
  rw [BitVec.toNat_ofNat]
  omega
/-- Eight bytes are the bytes of the name that they spell. -/
theorem nmL_uintV (s : List UInt8) (h : s.length = 8) : nmL (uintV s) = s := by
  obtain ⟨b0, b1, b2, b3, b4, b5, b6, b7, rfl⟩ := list8 s h
  obtain ⟨x, rfl, rfl, rfl, rfl, rfl, rfl, rfl, rfl⟩ := nm_of b0 b1 b2 b3 b4 b5 b6 b7
  exact congrArg nmL (uintV_nmL x)
end Go.Fl

/-
  make of a slice with a length that is a variable, copy of bytes into it, and cuts of slices that have an address; nothing of the program is spoken of here.
-/
namespace Go.Fl
open Go.ChangeShapes Go.WideShapes Go.ChangeAt Go.RowKit

/-- 'make([]T, n, m)': a new row of m elements, of which n belong to the slice. What the row holds is let open. -/
theorem wpList_make_sl {P : Program} {w : World} {ops : Array Oper} {rest : List Oper} {o : Oper} {a : Act} {Q : Exit → Act → World → Prop} (hgd : o.guard = none) (l c : Operand) (t : TypeId)
    (ho : o.op = Op.makeSlice t l c) (e : TypeId) (i : TypeInfo) (z : Value) (size by_ : Nat) (h1 : P.underlying t = some (.slice e)) (h2 : P.info? e = some i) (h3 : i.zero = some z) (h4 : i.size = size) (h5 : i.bytes = by_)
    (kl kc : IntKind) (L C : Int) (n m : Nat) (hl : a.eval l = .int kl L) (hc : a.eval c = .int kc C) (hL : L = (n : Int)) (hC : C = (m : Int)) (hnm : n ≤ m) (hb : by_ * m ≤ 281474976710656) (h63 : m ≤ 9223372036854775807)
    (hK : ∀ (Z : List Value) (w' : World), Hid (Z.length = m * size) → Is w' w.heap.size e Z.toArray → Fr w 1 w' → wpList P ops Q rest (a.put o.dst (.slice (some ⟨w.heap.size, 0, none⟩) n m)) w') : wpList P ops Q (o :: rest) a w := by
  refine wpList_plain hgd fun K hK' => ?_
  subst hL hC h4 h5
  have hb' : (i.bytes : Int) * (m : Int) ≤ 281474976710656 := by
    have h : ((i.bytes * m : Nat) : Int) ≤ 281474976710656 := by omega
    rwa [Int.natCast_mul] at h
  have hr := run_make (P := P) w t e i z h1 h2 h3 kl kc n m (by omega) (by omega) hb' (by omega)
  simp only [Int.toNat_natCast] at hr
  unfold Oper.wp
  simp [execOp, ho, hl, hc, hr, Result.andThen]
  exact hK' _ _ (hK (madeCells z.cells (m * i.size)).toList _ (Lib.hid (by simp [size_madeCells])) (Is.new w e _) ((Fr.refl w).alloc _))

theorem rb_src {w w' : World} {n : Nat} {A : Option Addr} {l : List UInt8} (h : RB w n A l) (hb : Below n w w') {cs : List Value} (hcs : cs = l.map B) (hp : 0 < cs.length) :
    ∃ ad, A = some ad ∧ ∀ j v, cs[j]? = some v → w'.cell? (ad.add j) = some v := by
  subst hcs
  obtain ⟨g, off, rfl, hg, hc⟩ := h (by simpa using hp)
  exact ⟨_, rfl, fun j v hj => rb_news w' (h.keep hb) j v hj⟩

/-- Bytes copied to the head of a row are a slice of the call's own. -/
theorem ob_splice {w : World} {g m n base : Nat} {e : TypeId} {Z cs : List Value} {l : List UInt8} (HG : Hid (w.heap[g]? = some (.cells (splice Z 0 cs).toArray e (0, 0)))) (hZ : Hid (Z.length = m * 1)) (hcs : cs = l.map B) (hn : n = l.length) (hm : n ≤ m) (h63 : m ≤ 9223372036854775807) (hb : base ≤ g) :
    OB w base e (.slice (some ⟨g, 0, none⟩) n m) l := by
  subst hcs hn
  have hz := hZ.out
  refine ⟨by simp, .inr ⟨g, m, _, rfl, hb, HG.out, hm, by simp only [maxLen]; omega, ?_, ?_⟩⟩
  · simp [splice]
    omega
  · simp [splice]

/-- x[k:], the slice has an address and the cut lies within it. -/
theorem run_from_at {P : Program} {ts te : TypeId} {i : TypeInfo} (hs : P.underlying ts = some (.slice te)) (hi : P.info? te = some i) (h1 : i.size = 1) (g off n c k : Nat) {X : Int} (hX : Hid (X = (k : Int))) (hk : k ≤ n) (hc : k < c) (W : World) :
    (Instr.slice ts (.slice (some ⟨g, off, none⟩) n c) (some (.int .i64 X)) none none).run P W = .ok (.slice (some ⟨g, off + k, none⟩) (n - k) (c - k)) W := by
  rw [hX.out, run_slice_from hs hi h1 _ n c k hk W, if_neg (by omega)]
  simp [add_plain]

/-- x[a:b], the slice has an address and the cut lies within it. -/
theorem run_range_at {P : Program} {ts te : TypeId} {i : TypeInfo} (hs : P.underlying ts = some (.slice te)) (hi : P.info? te = some i) (h1 : i.size = 1) (g off n c k m : Nat) {X Y : Int} (hX : X = (k : Int)) (hY : Y = ((k + m : Nat) : Int)) (hb : k + m ≤ c) (hc : k < c) (W : World) :
    (Instr.slice ts (.slice (some ⟨g, off, none⟩) n c) (some (.int .i64 X)) (some (.int .i64 Y)) none).run P W = .ok (.slice (some ⟨g, off + k, none⟩) m (c - k)) W := by
  rw [run_slice_range hs hi h1 _ n c X Y k (k + m) hX hY (by omega) hb W, if_neg (by omega)]
  have : k + m - k = m := by omega
  simp [add_plain, this]
end Go.Fl

/-
  The program's codec: its small helpers (has, copyWithRoom, putUint) and the reading of a number.
-/
namespace Go.Fl
open Go.ChangeShapes Go.WideShapes Go.ChangeAt Go.RowKit
theorem tailB_up (x : BitVec 64) (k j d e : Nat) (hk : k ≤ 8) (hj : j + d + 1 = k) (he : e + d = 7) : (tailB x k).take j ++ [nb x e] = (tailB x k).take (j + 1) := by
  have h := tailB_step x k (d + 1) hk (by omega) (by omega)
  have e1 : k - (d + 1) = j := by omega
  have e2 : k - (d + 1 - 1) = j + 1 := by omega
  have e3 : 8 - (d + 1) = e := by omega
  rw [e1, e2, e3] at h
  exact h
end Go.Fl
namespace Go.Proofs.Ytjghengkpbokaaa
open Go.ChangeShapes Go.WideShapes Go.ChangeAt Go.RowKit Go.Fl

theorem has_any (A : Option Addr) (l : List UInt8) (c : Nat) (p n : Int) (hm : l.length ≤ 281474976710656) (hp : I64 p) (w : World) :
    Calls Try.prog 43 #[.slice A l.length c, .int .i64 p, .int .i64 n] w fun e w' => e = .returned (.bool (decide (0 ≤ p ∧ n ≤ (l.length : Int) - p))) ∧ w = w' := by
  have hm' : (l.length : Int) ≤ 281474976710656 := by omega
  have hl0 : (0 : Int) ≤ (l.length : Int) := by omega
  have hp1 := hp.1
  have hp2 := hp.2
  by_cases h0 : p < 0
  · have e : decide (0 ≤ p ∧ n ≤ (l.length : Int) - p) = false := by rw [decide_eq_false_iff_not]; omega
    rw [e]
    go_enter Try.func43, Try.ntmps43
    go_wp2
    go_ret
    exact ⟨rfl, rfl⟩
  · by_cases h1 : n ≤ (l.length : Int) - p
    · have e : decide (0 ≤ p ∧ n ≤ (l.length : Int) - p) = true := by rw [decide_eq_true_iff]; omega
      rw [e]
      go_enter Try.func43, Try.ntmps43
      go_wp2
      go_ret
      exact ⟨rfl, rfl⟩
    · have e : decide (0 ≤ p ∧ n ≤ (l.length : Int) - p) = false := by rw [decide_eq_false_iff_not]; omega
      rw [e]
      go_enter Try.func43, Try.ntmps43
      go_wp2
      go_ret
      exact ⟨rfl, rfl⟩
theorem has_yes (A : Option Addr) (l : List UInt8) (c : Nat) (p n : Int) (hm : l.length ≤ 281474976710656) (h0 : 0 ≤ p) (h1 : n ≤ (l.length : Int) - p) (h2 : p ≤ 281474976710656) (w : World) :
    Calls Try.prog 43 #[.slice A l.length c, .int .i64 p, .int .i64 n] w fun e w' => e = .returned (.bool true) ∧ w = w' := by
  have h := has_any A l c p n hm ⟨by omega, by omega⟩ w
  rwa [decide_eq_true (by omega)] at h
theorem has_no (A : Option Addr) (l : List UInt8) (c : Nat) (p n : Int) (hm : l.length ≤ 281474976710656) (hp : I64 p) (h1 : p < 0 ∨ (l.length : Int) - p < n) (w : World) :
    Calls Try.prog 43 #[.slice A l.length c, .int .i64 p, .int .i64 n] w fun e w' => e = .returned (.bool false) ∧ w = w' := by
  have h := has_any A l c p n hm hp w
  rwa [decide_eq_false (by omega)] at h

theorem uint_no (A : Option Addr) (l : List UInt8) (c : Nat) (p n : Int) (h : n < 1 ∨ 8 < n ∨ p < 0 ∨ (l.length : Int) - n < p) (hm : l.length ≤ 281474976710656) (hp : I64 p) (w : World) :
    Calls Try.prog 24 #[.slice A l.length c, .int .i64 p, .int .i64 n] w fun e w' => e = .returned (.tuple #[.int .u64 0, .bool false]) ∧ w = w' := by
  have hm' : (l.length : Int) ≤ 281474976710656 := by omega
  have hl0 : (0 : Int) ≤ (l.length : Int) := by omega
  by_cases h1 : n < 1
  · go_enter Try.func24, Try.ntmps24
    go_wp2
    go_ret2
    exact ⟨rfl, rfl⟩
  · by_cases h2 : 8 < n
    · go_enter Try.func24, Try.ntmps24
      go_wp2
      go_ret2
      exact ⟨rfl, rfl⟩
    · have h4 : p < 0 ∨ (l.length : Int) - p < n := by omega
      clear h
      go_enter Try.func24, Try.ntmps24
      go_wp2_with (first
        | (go_at_call 43; refine (has_no A l c p n hm hp h4 _).mono ?_; rintro e w1 ⟨rfl, rfl⟩)
        | fail)
      go_ret2
      exact ⟨rfl, rfl⟩

set_option maxRecDepth 10000 in
set_option maxHeartbeats 1000000 in
theorem uint_yes (A : Option Addr) (l : List UInt8) (c : Nat) (p n : Nat) (h1 : 1 ≤ n) (h8 : n ≤ 8) (hp : p + n ≤ l.length) (hc : l.length ≤ c) (hm : l.length ≤ 281474976710656) (w : World) (hr : RB w w.heap.size A l) :
    Calls Try.prog 24 #[.slice A l.length c, .int .i64 p, .int .i64 n] w fun e w' => e = .returned (.tuple #[U (uintV ((l.drop p).take n)), .bool true]) ∧ w = w' := by
  obtain ⟨g, off, rfl, hg, hcell⟩ := hr (by omega)
  obtain ⟨i0, hi, hz0, hz1, hz2⟩ := info_parts info_byte
  have hsl := fun (W : World) => run_range_at (P := Try.prog) Try.underlying22 hi hz1 g off l.length c p n (X := (p : Int)) (Y := (p : Int) + (n : Int)) rfl (by omega) (by omega) (by omega) W
  clear hr hi hz0 hz1 hz2
  have q1 : (1 : Int) ≤ (n : Int) := by omega
  have q2 : (n : Int) ≤ 8 := by omega
  have q3 : (0 : Int) ≤ (p : Int) := by omega
  have q4 : (n : Int) ≤ (l.length : Int) - (p : Int) := by omega
  have q5 : (l.length : Int) ≤ 281474976710656 := by omega
  go_enter Try.func24, Try.ntmps24
  go_wp2_with (first
    | (go_at_call 43; refine (has_yes _ l c p n hm q3 q4 (by omega) _).mono ?_; rintro e w1 ⟨rfl, rfl⟩)
    | fail)
  go_loop [8, 31] (fun v i => ∃ k : Nat, k ≤ n ∧ i = .int .i64 k ∧ v = .int .u64 (beI ((l.drop p).take k))) (fun _ i => n - (intOf i).toNat)
  case atStart => exact ⟨0, by omega, rfl, by simp [beI]⟩
  case round =>
    obtain ⟨k, hk, rfl, rfl⟩ := hrel
    by_cases h : k < n
    · have hlen : ((l.drop p).take k).length = k := part_len l p k (by omega)
      obtain ⟨b, hb⟩ : ∃ b, l[p + k]? = some b := ⟨_, List.getElem?_eq_getElem (by omega)⟩
      have hstep := beI_step ((l.drop p).take k) b (by omega)
      rw [part_snoc l p k b hb] at hstep
      have HS := Lib.hid hstep
      obtain ⟨r0, r1⟩ := beI_lt ((l.drop p).take k) (by omega)
      have hc2 := hcell (p + k) b hb
      rw [← Nat.add_assoc] at hc2
      have lo := ub_lo b
      have hi := ub_hi b
      have s1 : (k : Int) < (n : Int) := by omega
      clear hstep hlen hcell hb
      go_wp2
      go_round
      case rel => exact ⟨k + 1, by omega, by go_num, by rw [HS.out]⟩
      case measure => simp [intOf]; omega
    · obtain rfl : k = n := by omega
      go_wp2
      go_ret2
      exact ⟨by rw [← uintV_iu _ (by rw [part_len l p k hp]; exact h8)]; rfl, rfl⟩

set_option maxRecDepth 10000 in
set_option maxHeartbeats 1000000 in
/-- copyWithRoom: the same bytes in memory of the call's own. -/
theorem room_any (A : Option Addr) (l : List UInt8) (c : Nat) (R : Int) (r : Nat) (hR : R = (r : Int)) (hm : l.length + r ≤ 160000000000000) (w : World) (hr : RB w w.heap.size A l) :
    Calls Try.prog 61 #[.slice A l.length c, .int .i64 R] w (RetOB w 5 l) := by
  obtain ⟨i0, hi, hz0, hz1, hz2⟩ := info_parts info_byte
  have HI := Lib.hid hi
  have HZ0 := Lib.hid hz0
  have HZ1 := Lib.hid hz1
  have HZ2 := Lib.hid hz2
  have HR := Lib.hid hr
  have HRR := Lib.hid hR
  obtain ⟨cs, hcs⟩ : ∃ cs, cs = l.map B := ⟨_, rfl⟩
  have hcl : cs.length = l.length := by rw [hcs]; simp
  have HCL := Lib.hid hcl
  have HN : Hid (cs.length = Nat.min l.length l.length) := Lib.hid (hcl.trans (Nat.min_self _).symm)
  have HCS := Lib.hid hcs
  have H1 : Hid (∀ v ∈ cs, v.oneCell' = true) := Lib.hid (by rw [hcs]; exact bytes_one l)
  have s1 : 0 ≤ R := by omega
  have s2 : (l.length : Int) + R ≤ 160000000000000 := by omega
  clear hi hz0 hz1 hz2 hr hR hcs hcl
  go_enter Try.func61, Try.ntmps61
  go_wp2_with (first
    | (at_make; refine wpList_make_sl rfl _ _ 22 rfl 5 i0 _ 1 1 Try.underlying22 HI.out HZ0.out HZ1.out HZ2.out _ _ _ _ l.length (l.length + r) rfl rfl (by go_num) (by (have := HRR.out; go_num)) (by omega) (by omega) (by omega) ?_; intro Z w1 hZ hz hF1)
    | (refine wpList_copy_splice rfl (.tmp 13) (.tmp 14) 22 22 rfl 5 Try.underlying22 byte_info _ _ _ _ _ _ rfl rfl w.heap.size 0 Z 5 hz cs (HN.out) (fun hp => ⟨rfl, rb_src HR.out hF1.1 HCS.out hp⟩) (by (have := hZ.out; have := HCL.out; omega)) H1.out w.heap.size _ (Below.refl _ _) (Nat.le_refl _) ?_; intro w2 HG hb2)
    | fail)
  go_ret
  exact ⟨_, rfl, ob_splice HG hZ HCS.out rfl (by omega) (by omega) (Nat.le_refl _), hF1.1.trans hb2⟩
end Go.Proofs.Ytjghengkpbokaaa
