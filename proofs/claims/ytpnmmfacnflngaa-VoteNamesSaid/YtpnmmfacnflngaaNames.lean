/-
  Lists of names in memory: what it is that a slice holds these names ('RN'), a slice of names of the call's own ('ON'), how one that came in is opened, and append onto one of the call's own.
-/
import Derived.Test.YtpnmmfacnflngaaPure
import Derived.Deep.Slices
namespace Go.Fl
open Go.ChangeShapes Go.WideShapes Go.ChangeAt Go.RowKit

/-- The cells of a list of names, one after the other. -/
def nsC (l : List (BitVec 64)) : List Value := l.flatMap fun x => (nmL x).map B
theorem nsC_len (l : List (BitVec 64)) : (nsC l).length = l.length * 8 := by
  induction l with
  | nil => rfl
  | cons x l ih =>
    have : nsC (x :: l) = (nmL x).map B ++ nsC l := rfl
    rw [this, List.length_append, ih, List.length_map, nmL_len, List.length_cons]
    omega
theorem nsC_append (l m : List (BitVec 64)) : nsC (l ++ m) = nsC l ++ nsC m := by simp [nsC]
theorem nsC_get (l : List (BitVec 64)) (i : Nat) (x : BitVec 64) (h : l[i]? = some x) (j : Nat) (hj : j < 8) : (nsC l)[i * 8 + j]? = (nmC x)[j]? := by
  induction l generalizing i with
  | nil => simp at h
  | cons y l ih =>
    have e : nsC (y :: l) = (nmL y).map B ++ nsC l := rfl
    have hl : ((nmL y).map B).length = 8 := by rw [List.length_map, nmL_len]
    cases i with
    | zero =>
      simp at h
      subst h
      rw [e, List.getElem?_append_left (by omega), Nat.zero_mul, Nat.zero_add]
      have : (nmC y) = ((nmL y).map B).toArray := rfl
      rw [this]
      simp
    | succ i =>
      rw [e, List.getElem?_append_right (by omega), hl]
      have : (i + 1) * 8 + j - 8 = i * 8 + j := by omega
      rw [this]
      exact ih i (by simpa using h)

/-- A slice at A of these names, which lie below block n. -/
def RN (w : World) (n : Nat) (A : Option Addr) (l : List (BitVec 64)) : Prop :=
  0 < l.length → ∃ g off, A = some ⟨g, off, none⟩ ∧ g < n ∧ ∀ i x, l[i]? = some x → ∀ j, j < 8 → w.cell? ⟨g, off + i * 8 + j, none⟩ = (nmC x)[j]?

section
variable {w w' : World} {n m : Nat} {A : Option Addr} {l : List (BitVec 64)}
theorem RN.nil (w : World) (n : Nat) (A : Option Addr) : RN w n A [] := fun h => absurd h (by simp)
theorem RN.keep (h : RN w n A l) (hb : Below n w w') : RN w' n A l := fun hp => by
  obtain ⟨g, off, rfl, hg, hc⟩ := h hp
  exact ⟨g, off, rfl, hg, fun i x hi j hj => (hb.cell hg).trans (hc i x hi j hj)⟩
theorem RN.mono (h : RN w n A l) (hm : n ≤ m) : RN w m A l := fun hp => by
  obtain ⟨g, off, rfl, hg, hc⟩ := h hp
  exact ⟨g, off, rfl, by omega, hc⟩
theorem RN.next (h : Hid (RN w w.heap.size A l)) (hb : Below w.heap.size w w') : Hid (RN w' w'.heap.size A l) := (h.out.keep hb).mono hb.size
theorem RN.drop (h : RN w n A l) (k : Nat) : RN w n (A.map (·.add (k * 8))) (l.drop k) := fun hp => by
  obtain ⟨g, off, rfl, hg, hc⟩ := h (by simp at hp; omega)
  refine ⟨g, off + k * 8, by simp [add_plain], hg, fun i x hi j hj => ?_⟩
  rw [List.getElem?_drop] at hi
  have := hc (k + i) x hi j hj
  have e : off + k * 8 + i * 8 + j = off + (k + i) * 8 + j := by omega
  rw [e]
  exact this
theorem RN.take (h : RN w n A l) (k : Nat) : RN w n A (l.take k) := fun hp => by
  obtain ⟨g, off, rfl, hg, hc⟩ := h (by simp at hp; omega)
  refine ⟨g, off, rfl, hg, fun i x hi => hc i x ?_⟩
  rw [List.getElem?_take] at hi
  split at hi <;> simp_all
/-- One name of the list, as a slice of its bytes. -/
theorem RN.rb (h : RN w n A l) {g off i : Nat} {x : BitVec 64} (hA : A = some ⟨g, off, none⟩) (hi : l[i]? = some x) : RB w n (some ⟨g, off + i * 8, none⟩) (nmL x) := fun _ => by
  have hl : 0 < l.length := by
    have := (List.getElem?_eq_some_iff.1 hi).1
    omega
  obtain ⟨g', off', e, hg, hc⟩ := h hl
  rw [hA] at e
  injection e with e
  injection e with e1 e2
  subst e1
  subst e2
  refine ⟨g, off + i * 8, rfl, hg, fun j b hj => ?_⟩
  have hj8 : j < 8 := by have := (List.getElem?_eq_some_iff.1 hj).1; rw [nmL_len] at this; exact this
  rw [hc i x hi j hj8]
  exact nmL_get x j b hj
theorem RN.at_ (h : RN w n A l) {i : Nat} {x : BitVec 64} (hi : l[i]? = some x) : ∃ g off, A = some ⟨g, off, none⟩ ∧ g < n ∧ ∀ j, j < 8 → w.cell? ⟨g, off + i * 8 + j, none⟩ = (nmC x)[j]? := by
  have hl : 0 < l.length := by
    have := (List.getElem?_eq_some_iff.1 hi).1
    omega
  obtain ⟨g, off, e, hg, hc⟩ := h hl
  exact ⟨g, off, e, hg, hc i x hi⟩
end

/-! ### Of the call's own -/
def ON (w : World) (base : Nat) (tn : TypeId) (v : Value) (l : List (BitVec 64)) : Prop := w.ownsRow base tn 8 v l.length (nsC l)
section
variable {w w' : World} {base : Nat} {tn : TypeId} {v : Value} {l : List (BitVec 64)}
theorem ON.nil (w : World) (base : Nat) (tn : TypeId) : ON w base tn (.slice none 0 0) [] := ⟨rfl, .inl ⟨rfl, rfl⟩⟩
theorem ON.form_n (h : ON w base tn v l) : ∃ A n c, v = .slice A n c ∧ Hid (n = l.length) ∧ l.length ≤ c ∧ c ≤ 9223372036854775807 ∧ Hid (RN w w.heap.size A l) := by
  rcases h.2 with ⟨rfl, h0⟩ | ⟨g, cap, cur, rfl, _, hh, hn, hm, _, ht⟩
  · have : l = [] := List.eq_nil_of_length_eq_zero h0
    subst this
    exact ⟨none, 0, 0, rfl, rfl, by simp, by omega, RN.nil _ _ _⟩
  · refine ⟨_, _, cap, rfl, rfl, hn, by simp only [maxLen] at hm; omega, fun _ => ⟨g, 0, rfl, (Array.getElem?_eq_some_iff.1 hh).1, fun i x hi j hj => ?_⟩⟩
    have hil : i < l.length := (List.getElem?_eq_some_iff.1 hi).1
    have h1 := nsC_get l i x hi j hj
    rw [← ht, List.getElem?_take, if_pos (by omega)] at h1
    rw [cell_of_row w g (0 + i * 8 + j) cur tn (0, 0) hh, Nat.zero_add, ← h1]
    simp
theorem ON.keep (h : ON w base tn v l) (hb : Below w.heap.size w w') : ON w' base tn v l := by
  refine ⟨h.1, ?_⟩
  rcases h.2 with h2 | ⟨g, cap, cur, hv, hg, hh, r⟩
  · exact Or.inl h2
  · exact Or.inr ⟨g, cap, cur, hv, hg, (hb.block g (Array.getElem?_eq_some_iff.1 hh).1).trans hh, r⟩
theorem ON.own (h : ON w base tn v l) : ∀ k, v.ownBlock = some k → base ≤ k := fun k hk => by
  rcases h.2 with ⟨rfl, _⟩ | ⟨g, cap, cur, rfl, hg, _⟩
  · simp [Value.ownBlock] at hk
  · simp [Value.ownBlock] at hk
    omega
end

theorem on_base {w : World} {base m : Nat} {tn : TypeId} {v : Value} {l : List (BitVec 64)} (h : ON w base tn v l) (hm : m ≤ base) : ON w m tn v l := by
  refine ⟨h.1, ?_⟩
  rcases h.2 with h2 | ⟨g, cap, cur, hv, hg, r⟩
  · exact Or.inl h2
  · exact Or.inr ⟨g, cap, cur, hv, by omega, r⟩

/-- append of one name that lies in a new block. -/
theorem wpList_append_on {P : Program} {w : World} {ops : Array Oper} {rest : List Oper} {o : Oper} {a : Act} {Q : Exit → Act → World → Prop} (hgd : o.guard = none) (s x : Operand) (t : TypeId)
    (ho : o.op = .call { callee := .builtin .append, args := #[s, x], argTypes := #[t, t] })
    (base : Nat) (e : TypeId) (i : TypeInfo) (z : Value) (ht : P.underlying t = some (.slice e)) (hi : P.info? e = some i) (hz : i.zero = some z) (hzs : z.cells.size = 8) (hs : i.size = 8) (hb : i.bytes = 8)
    (v : Value) (l : List (BitVec 64)) (hv : a.eval s = v) (h : ON w base e v l) (n : Nat) (ad : Addr) (m : Nat) (c : Nat) (y : BitVec 64) (hx : a.eval x = .slice (some ad) m c) (hm1 : m = 1) (hr : RN w n (some ad) [y]) (hm : l.length + 1 ≤ 17592186044416) (hbase : base ≤ w.heap.size)
    (hK : ∀ v' w', ON w' base e v' (l ++ [y]) → w.grownBy w' v.ownBlock → (v'.ownBlock = v.ownBlock ∨ v'.ownBlock = some w.heap.size) → wpList P ops Q rest (a.put o.dst v') w') : wpList P ops Q (o :: rest) a w := by
  subst hm1
  refine wpList_append_own_at w hgd s x t ho base e i z 8 8 ht hi hz hs hb hzs (by omega) v l.length (nsC l) hv h ad 1 c ((nmL y).map B) hx (by rw [List.length_map, nmL_len]) ?_ (bytes_one _) (by simp only [maxLen]; omega) (by omega) hbase ?_
  · intro j u hu
    obtain ⟨g, off, e1, _, hc⟩ := hr (by simp)
    injection e1 with e1
    subst e1
    have hj : j < 8 := by have := (List.getElem?_eq_some_iff.1 hu).1; rw [List.length_map, nmL_len] at this; exact this
    have := hc 0 y rfl j hj
    rw [add_plain]
    rw [Nat.zero_mul, Nat.add_zero] at this
    rw [this]
    exact nmC_list y j u hu
  · intro v' w' h1 h2 _ h4
    refine hK v' w' ?_ h2 h4
    have e2 : nsC (l ++ [y]) = nsC l ++ (nmL y).map B := by rw [nsC_append]; simp [nsC]
    unfold ON
    rw [e2, List.length_append]
    exact h1

/-- A name in a new block, as a slice of one. -/
theorem rn_build (w : World) (tn : TypeId) (y : BitVec 64) : RN (w.alloc (.cells (nmC y) tn)) (w.alloc (.cells (nmC y) tn)).heap.size (some ⟨w.heap.size, 0, none⟩) [y] := fun _ =>
  ⟨w.heap.size, 0, rfl, by simp, fun i x hi j _ => by
    cases i with
    | zero =>
      simp at hi
      subst hi
      rw [Nat.zero_mul, Nat.add_zero, Nat.zero_add]
      exact At.new w (nmC y) tn j
    | succ i => simp at hi⟩

/-! ### A slice of names that came in -/
section
variable {H : Type} {enc : TypeId × Value → H} {P : Program} {w : World}
theorem open_names {ts tn tb : TypeId} (hs : P.underlying ts = some (.slice tn)) (hn : P.underlying tn = some (.array 8 tb)) (hb : P.underlying tb = some (.int .u8)) (hc : P.cellsOf tb = 1) (hs8 : P.cellsOf tn = 8) (hby : P.bytesOf tn = 8)
    {base : Nat} {v : Value} {d : DataW H} {p : List MemPlace} (hok : Value.okWide P w .any base ts v) (h : DataW.Trod enc P w 0 (fun _ => true) true ts v d p) (hlt : ∀ x ∈ p, x.block < w.heap.size)
    {tys : List TypeId} {ds : List (DataW H)} (hsz : (DataW.weightsEach P tys ds).all (· ≤ reachBytes) = true) {j : Nat} (hj : tys[j]? = some ts) (hd : ds[j]? = some d) :
    ∃ A l c, v = .slice A l.length c ∧ l.length ≤ c ∧ c ≤ 17592186044160 ∧ RN w w.heap.size A l := by
  obtain ⟨a0, len, cap, rfl⟩ := okWide_slice hs hok
  obtain ⟨fuel, hf⟩ := h
  rcases Deep.open_slice hs hf with ⟨hcs, _⟩ | ⟨a, len', cap', m, n, D, Pl, hcs, _, hl, hm, hmm, hx, hel⟩
  · simp [Value.cells] at hcs
    obtain ⟨rfl, rfl, rfl⟩ := hcs
    exact ⟨none, [], 0, rfl, by simp, by omega, RN.nil _ _ _⟩
  · simp [Value.cells] at hcs
    obtain ⟨rfl, rfl, rfl⟩ := hcs
    simp only [Prod.mk.injEq] at hx
    obtain ⟨rfl, rfl⟩ := hx
    simp only [if_true] at hmm
    have hreach : cap ≤ 17592186044160 := by
      have := sized_slice hsz hj hd hs
      rw [hby] at this
      simp only [List.length_map, List.length_range, reachBytes] at this
      omega
    rw [hs8] at hel
    obtain ⟨f, hfn⟩ := Deep.choose_lt (p := fun i x => w.cells? 0 (a.add (i * 8)) 8 = some (nmC x).toList) (n := len) (fun i hi => by
      obtain ⟨cs', h1, h2⟩ := hel i (by omega)
      obtain ⟨x, rfl, _⟩ := trod_name hn hb hc hs8 h2
      exact ⟨x, h1⟩)
    refine ⟨some a, (List.range len).map f, cap, by simp, by simp; omega, hreach, fun hp => ?_⟩
    have hp' : 0 < len := by simpa using hp
    obtain ⟨b, off, spot⟩ := a
    have h0 := hfn 0 hp'
    obtain ⟨_, _, hc0⟩ := World.cells?_some h0
    have hspot : spot = none := by
      have := hc0 0 (by omega)
      simp [Addr.add] at this
      exact World.cell?_spot this
    subst hspot
    refine ⟨b, off, rfl, hlt (.cell b off) (by
      rw [List.mem_append]
      exact Or.inl (MemPlace.mem_row.2 ⟨0, by rw [hs8]; omega, by simp⟩)), fun i x hi j hj => ?_⟩
    have hil : i < len := by
      have := (List.getElem?_eq_some_iff.1 hi).1
      simpa using this
    have hx : f i = x := by simpa [hil] using hi
    obtain ⟨_, _, hci⟩ := World.cells?_some (hfn i hil)
    have := hci j hj
    rw [add_plain, add_plain] at this
    rw [this, hx]
    simp
end
end Go.Fl
