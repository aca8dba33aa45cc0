/-
  What it is that cells spell a thing, for any type of the program ('Rep'): numbers, names, strings, slices of bytes and of names, structs, slices of what is spelt already ('repSlice'); how an argument of such a type is opened ('open_rep').
-/
import Derived.Test.YtpnmmfacnflngaaVals
namespace Go.Fl
open Go.ChangeShapes Go.WideShapes Go.ChangeAt Go.RowKit

/-- How a type's cells spell a thing. 'fine': what an argument's reach says of it. -/
structure Rep (P : Program) (t : TypeId) (α : Type) where
  is : World → α → List Value → Prop
  fine : α → Prop
  len : ∀ {w : World} {x : α} {cs : List Value}, is w x cs → cs.length = P.cellsOf t
  keep : ∀ {w w' : World} {x : α} {cs : List Value}, is w x cs → Below w.heap.size w w' → is w' x cs
  opened : ∀ {H : Type} {enc : TypeId × Value → H} {w : World} {fuel : Nat} {cs : List Value} {x : DataW H × List MemPlace}, DataW.trod enc P w 0 (fun _ => true) true fuel t cs = some x →
    (∀ p ∈ x.2, p.block < w.heap.size) → (∀ n ∈ DataW.weights P t x.1, n ≤ reachBytes) → ∃ y, is w y cs ∧ fine y

section
variable {P : Program} {e : TypeId} {α : Type}
/-- This value is a slice of these things. -/
def VS (R : Rep P e α) (w : World) (v : Value) (l : List α) : Prop :=
  ∃ A c, v = .slice A l.length c ∧ l.length ≤ c ∧ c ≤ 9223372036854775807 ∧ (0 < l.length → ∃ g off, A = some ⟨g, off, none⟩ ∧ g < w.heap.size ∧
    ∀ i x, l[i]? = some x → ∃ cs, R.is w x cs ∧ ∀ j, j < P.cellsOf e → w.cell? ⟨g, off + i * P.cellsOf e + j, none⟩ = cs[j]?)
variable {R : Rep P e α} {w w' : World} {v : Value} {l : List α}
theorem VS.next (h : VS R w v l) (hb : Below w.heap.size w w') : VS R w' v l := by
  obtain ⟨A, c, rfl, h1, h2, h3⟩ := h
  refine ⟨A, c, rfl, h1, h2, fun hp => ?_⟩
  obtain ⟨g, off, rfl, hg, hc⟩ := h3 hp
  refine ⟨g, off, rfl, Nat.lt_of_lt_of_le hg hb.size, fun i x hi => ?_⟩
  obtain ⟨cs, hcs, hj⟩ := hc i x hi
  exact ⟨cs, R.keep hcs hb, fun j hj' => (hb.cell hg).trans (hj j hj')⟩
theorem VS.nil (R : Rep P e α) (w : World) : VS R w (.slice none 0 0) [] := ⟨none, 0, rfl, by simp, by omega, fun h => absurd h (by simp)⟩
/-- One thing of the slice. -/
theorem VS.at_ (h : VS R w v l) {i : Nat} {x : α} (hi : l[i]? = some x) : ∃ g off c, v = .slice (some ⟨g, off, none⟩) l.length c ∧ g < w.heap.size ∧
    ∃ cs, R.is w x cs ∧ ∀ j, j < P.cellsOf e → w.cell? ⟨g, off + i * P.cellsOf e + j, none⟩ = cs[j]? := by
  obtain ⟨A, c, rfl, h1, h2, h3⟩ := h
  obtain ⟨g, off, rfl, hg, hc⟩ := h3 (by have := (List.getElem?_eq_some_iff.1 hi).1; omega)
  exact ⟨g, off, c, rfl, hg, hc i x hi⟩
theorem VS.form (h : VS R w v l) : ∃ A c, v = .slice A l.length c ∧ l.length ≤ c ∧ c ≤ 9223372036854775807 := by
  obtain ⟨A, c, rfl, h1, h2, _⟩ := h
  exact ⟨A, c, rfl, h1, h2⟩
end

theorem weights_all {H : Type} {P : Program} {e : TypeId} {d : DataW H} {ds : List (DataW H)} (h : d ∈ ds) : ∀ n ∈ DataW.weights P e d, n ∈ DataW.weightsAll P e ds := by
  induction ds with
  | nil => cases h
  | cons x r ih =>
    intro n hn
    simp only [DataW.weightsAll, List.mem_append]
    rcases List.mem_cons.1 h with rfl | h
    · exact Or.inl hn
    · exact Or.inr (ih h n hn)

/-- Slices of what is spelt already. -/
def repSlice {P : Program} {t e : TypeId} {α : Type} [Inhabited α] (ht : P.underlying t = some (.slice e)) (R : Rep P e α) (h1 : P.cellsOf t = 1) (h0 : 0 < P.cellsOf e) : Rep P t (List α) where
  is w l cs := ∃ v, cs = [v] ∧ VS R w v l
  fine l := l.length * P.bytesOf e ≤ reachBytes ∧ ∀ x ∈ l, R.fine x
  len := by
    rintro w x cs ⟨v, rfl, _⟩
    rw [h1]
    rfl
  keep := by
    rintro w w' x cs ⟨v, rfl, h⟩ hb
    exact ⟨v, rfl, h.next hb⟩
  opened := by
    intro H enc w fuel cs x hf hlt hw
    rcases Deep.open_slice ht hf with ⟨rfl, _⟩ | ⟨a, len, cap, m, n, D, Pl, rfl, _, hl, hm, hmm, rfl, hel⟩
    · exact ⟨[], ⟨_, rfl, VS.nil R w⟩, by simp [reachBytes], by simp⟩
    · simp only [if_true] at hmm
      have hwts : (len + (m - len)) * P.bytesOf e ≤ reachBytes := hw _ (by simp [DataW.weights, ht])
      have hmem : ∀ i, i < len → ∀ k ∈ DataW.weights P e (D i), k ≤ reachBytes := fun i hi k hk => hw k (by
        simp only [DataW.weights, ht, List.mem_cons, List.mem_append]
        exact Or.inr (Or.inl (weights_all (List.mem_map.2 ⟨i, by simpa using hi, rfl⟩) k hk)))
      have hplace : ∀ i, i < len → ∀ p ∈ Pl i, p.block < w.heap.size := fun i hi p hp => hlt p (by
        simp only [List.mem_append, List.mem_flatMap]
        exact Or.inr ⟨i, by simp; omega, hp⟩)
      obtain ⟨f, hfn⟩ := Deep.choose_lt (p := fun i y => ∃ cs', w.cells? 0 (a.add (i * P.cellsOf e)) (P.cellsOf e) = some cs' ∧ R.is w y cs' ∧ R.fine y) (n := len) (fun i hi => by
        obtain ⟨cs', h1, h2⟩ := hel i (by omega)
        obtain ⟨y, hy, hy2⟩ := R.opened h2 (hplace i hi) (hmem i hi)
        exact ⟨y, cs', h1, hy, hy2⟩)
      refine ⟨(List.range len).map f, ⟨_, rfl, some a, cap, by simp, by simpa using hl, hm, fun hp => ?_⟩, ?_, ?_⟩
      · have hp' : 0 < len := by simpa using hp
        obtain ⟨b, off, spot⟩ := a
        obtain ⟨cs0, hc0, _, _⟩ := hfn 0 hp'
        obtain ⟨_, hl0, hcc⟩ := World.cells?_some hc0
        have hspot : spot = none := by
          have h := hcc 0 h0
          simp only [Nat.zero_mul, Addr.add] at h
          have hlt0 : 0 < cs0.length := by omega
          rw [List.getElem?_eq_getElem hlt0] at h
          exact World.cell?_spot h
        subst hspot
        have hpos : 0 < m * P.cellsOf e := Nat.mul_pos (by omega) h0
        refine ⟨b, off, rfl, hlt (.cell b off) (by
          simp only [List.mem_append]
          exact Or.inl (MemPlace.mem_row.2 ⟨0, hpos, by simp⟩)), fun i x hi => ?_⟩
        have hil : i < len := by
          have := (List.getElem?_eq_some_iff.1 hi).1
          simpa using this
        have hx : f i = x := by simpa [hil] using hi
        obtain ⟨cs', hc', hr, _⟩ := hfn i hil
        rw [hx] at hr
        obtain ⟨_, _, hcj⟩ := World.cells?_some hc'
        refine ⟨cs', hr, fun j hj => ?_⟩
        have := hcj j hj
        rw [add_plain, add_plain] at this
        exact this
      · simp only [List.length_map, List.length_range]
        exact Nat.le_trans (Nat.mul_le_mul_right _ (by omega)) hwts
      · intro x hx
        rw [List.mem_map] at hx
        obtain ⟨i, hi, rfl⟩ := hx
        obtain ⟨_, _, _, h⟩ := hfn i (by simpa using hi)
        exact h

/-- An argument that is one cell is opened. -/
theorem open_rep {H : Type} {enc : TypeId × Value → H} {P : Program} {w : World} {t : TypeId} {α : Type} (R : Rep P t α) {v : Value} {d : DataW H} {p : List MemPlace} (hv : v.cells = #[v])
    (h : DataW.Trod enc P w 0 (fun _ => true) true t v d p) (hlt : ∀ x ∈ p, x.block < w.heap.size)
    {tys : List TypeId} {ds : List (DataW H)} (hsz : (DataW.weightsEach P tys ds).all (· ≤ reachBytes) = true) {j : Nat} (hj : tys[j]? = some t) (hd : ds[j]? = some d) :
    ∃ y, R.is w y [v] ∧ R.fine y := by
  obtain ⟨fuel, hf⟩ := h
  rw [hv] at hf
  refine R.opened hf hlt fun n hn => ?_
  have := List.all_eq_true.1 hsz n (DataW.weights_mem_each hj hd n hn)
  simpa using this

/-! ### The leaves -/
section
variable {P : Program}
/-- One thing of a whole of kind k that one cell spells. -/
def repByte {t : TypeId} (ht : P.underlying t = some (.int .u8)) (hc : P.cellsOf t = 1) : Rep P t UInt8 where
  is _ b cs := cs = [B b]
  fine _ := True
  len := by rintro w x cs rfl; rw [hc]; rfl
  keep := fun h _ => h
  opened := by
    intro H enc w fuel cs x hf _ _
    obtain ⟨n, ec, rfl, wn⟩ := DataW.trod_int ht hf
    have := bounds_u8 wn
    obtain ⟨b, rfl⟩ := ub_of n this.1 this.2
    exact ⟨b, ec, trivial⟩
def repU64 {t : TypeId} (ht : P.underlying t = some (.int .u64)) (hc : P.cellsOf t = 1) : Rep P t (BitVec 64) where
  is _ b cs := cs = [U b]
  fine _ := True
  len := by rintro w x cs rfl; rw [hc]; rfl
  keep := fun h _ => h
  opened := by
    intro H enc w fuel cs x hf _ _
    obtain ⟨n, ec, rfl, wn⟩ := DataW.trod_int ht hf
    have := bounds_u64 wn
    obtain ⟨b, rfl⟩ := iu_of n this.1 this.2
    exact ⟨b, ec, trivial⟩
def repInt {t : TypeId} (ht : P.underlying t = some (.int .i64)) (hc : P.cellsOf t = 1) : Rep P t Int where
  is _ n cs := cs = [.int .i64 n]
  fine n := I64 n
  len := by rintro w x cs rfl; rw [hc]; rfl
  keep := fun h _ => h
  opened := by
    intro H enc w fuel cs x hf _ _
    obtain ⟨n, ec, rfl, wn⟩ := DataW.trod_int ht hf
    exact ⟨n, ec, bounds_i64 wn⟩
def repBool {t : TypeId} (ht : P.underlying t = some .bool) (hc : P.cellsOf t = 1) : Rep P t Bool where
  is _ b cs := cs = [.bool b]
  fine _ := True
  len := by rintro w x cs rfl; rw [hc]; rfl
  keep := fun h _ => h
  opened := by
    intro H enc w fuel cs x hf _ _
    obtain ⟨b, ec, rfl⟩ := DataW.trod_bool ht hf
    exact ⟨b, ec, trivial⟩
def repName {t tb : TypeId} (ht : P.underlying t = some (.array 8 tb)) (hb : P.underlying tb = some (.int .u8)) (hc : P.cellsOf tb = 1) (hs : P.cellsOf t = 8) : Rep P t (BitVec 64) where
  is _ n cs := cs = (nmC n).toList
  fine _ := True
  len := by rintro w x cs rfl; rw [hs]; rfl
  keep := fun h _ => h
  opened := by
    intro H enc w fuel cs x hf _ _
    obtain ⟨n, ec, _⟩ := trod_name ht hb hc hs hf
    exact ⟨n, ec, trivial⟩
/-- A slice of bytes. -/
def repBytes {t tb : TypeId} (ht : P.underlying t = some (.slice tb)) (hb : P.underlying tb = some (.int .u8)) (hc : P.cellsOf tb = 1) (h1 : P.cellsOf t = 1) (hby : P.bytesOf tb = 1) : Rep P t (List UInt8) where
  is w l cs := ∃ v, cs = [v] ∧ VB w v l
  fine l := l.length ≤ 140737488351232
  len := by rintro w x cs ⟨v, rfl, _⟩; rw [h1]; rfl
  keep := by rintro w w' x cs ⟨v, rfl, h⟩ hb; exact ⟨v, rfl, h.next hb⟩
  opened := by
    intro H enc w fuel cs x hf hlt hw
    obtain ⟨l, ⟨v, rfl, A, c, rfl, h2, h3, h4⟩, hl, _⟩ := (repSlice ht (repByte hb hc) h1 (by omega)).opened hf hlt hw
    refine ⟨l, ⟨_, rfl, A, c, rfl, h2, h3, fun hp => ?_⟩, by rw [hby] at hl; simp only [reachBytes] at hl; omega⟩
    obtain ⟨g, off, rfl, hg, hcell⟩ := h4 hp
    refine ⟨g, off, rfl, hg, fun i b hi => ?_⟩
    obtain ⟨cs, rfl, hj⟩ := hcell i b hi
    have := hj 0 (by omega)
    rw [hc, Nat.mul_one, Nat.add_zero] at this
    exact this
/-- A slice of names. -/
def repNames {t tn tb : TypeId} (ht : P.underlying t = some (.slice tn)) (hn : P.underlying tn = some (.array 8 tb)) (hb : P.underlying tb = some (.int .u8)) (hc : P.cellsOf tb = 1) (hs : P.cellsOf tn = 8) (h1 : P.cellsOf t = 1) (hby : P.bytesOf tn = 8) : Rep P t (List (BitVec 64)) where
  is w l cs := ∃ v, cs = [v] ∧ VN w v l
  fine l := l.length ≤ 17592186044160
  len := by rintro w x cs ⟨v, rfl, _⟩; rw [h1]; rfl
  keep := by rintro w w' x cs ⟨v, rfl, h⟩ hb; exact ⟨v, rfl, h.next hb⟩
  opened := by
    intro H enc w fuel cs x hf hlt hw
    obtain ⟨l, ⟨v, rfl, A, c, rfl, h2, h3, h4⟩, hl, _⟩ := (repSlice ht (repName hn hb hc hs) h1 (by omega)).opened hf hlt hw
    refine ⟨l, ⟨_, rfl, A, c, rfl, h2, h3, fun hp => ?_⟩, by rw [hby] at hl; simp only [reachBytes] at hl; omega⟩
    obtain ⟨g, off, rfl, hg, hcell⟩ := h4 hp
    refine ⟨g, off, rfl, hg, fun i b hi j hj' => ?_⟩
    obtain ⟨cs, rfl, hj⟩ := hcell i b hi
    have := hj j (by omega)
    rw [hs] at this
    rw [this]
    simp
end

/-! ### Structs -/
/-- The fields of a struct from cell o on. -/
structure RepF (P : Program) (fs : List Field) (o : Nat) (α : Type) where
  is : World → α → List Value → Prop
  fine : α → Prop
  total : Nat
  len : ∀ {w : World} {x : α} {cs : List Value}, is w x cs → cs.length = total
  keep : ∀ {w w' : World} {x : α} {cs : List Value}, is w x cs → Below w.heap.size w w' → is w' x cs
  opened : ∀ {H : Type} {enc : TypeId × Value → H} {w : World} {n : Nat} {cs : List Value} {xs : List (DataW H × List MemPlace)}, xs.length = fs.length → cs.length = o + total →
    (∀ (i : Nat) (f : Field), fs[i]? = some f → DataW.trod enc P w 0 (fun _ => true) true n f.type ((cs.drop f.offset).take (P.cellsOf f.type)) = xs[i]?) →
    (∀ x ∈ xs, ∀ p ∈ x.2, p.block < w.heap.size) → (∀ n ∈ DataW.weightsEach P (fs.map (·.type)) (xs.map (·.1)), n ≤ reachBytes) → ∃ y, is w y (cs.drop o) ∧ fine y

def repNil (P : Program) (o : Nat) : RepF P [] o Unit where
  is _ _ cs := cs = []
  fine _ := True
  total := 0
  len := by rintro w x cs rfl; rfl
  keep := fun h _ => h
  opened := by
    intro H enc w n cs xs _ hl _ _ _
    exact ⟨(), List.eq_nil_of_length_eq_zero (by simp; omega), trivial⟩

def repCons {P : Program} {f : Field} {fs : List Field} {o o2 : Nat} {α β : Type} (R : Rep P f.type α) (ho : f.offset = o) (ho2 : o + P.cellsOf f.type = o2) (F : RepF P fs o2 β) : RepF P (f :: fs) o (α × β) where
  is w x cs := ∃ c1 c2, cs = c1 ++ c2 ∧ R.is w x.1 c1 ∧ F.is w x.2 c2
  fine x := R.fine x.1 ∧ F.fine x.2
  total := P.cellsOf f.type + F.total
  len := by
    rintro w x cs ⟨c1, c2, rfl, h1, h2⟩
    rw [List.length_append, R.len h1, F.len h2]
  keep := by
    rintro w w' x cs ⟨c1, c2, rfl, h1, h2⟩ hb
    exact ⟨c1, c2, rfl, R.keep h1 hb, F.keep h2 hb⟩
  opened := by
    intro H enc w n cs xs hxl hl hf hp hw
    cases xs with
    | nil => simp at hxl
    | cons x xs =>
      have h0 := hf 0 f rfl
      rw [ho] at h0
      simp only [List.getElem?_cons_zero] at h0
      simp only [List.map_cons, DataW.weightsEach, List.mem_append] at hw
      obtain ⟨y, hy, hy2⟩ := R.opened h0 (hp x (by simp)) (fun n hn => hw n (Or.inl hn))
      obtain ⟨z, hz, hz2⟩ := F.opened (cs := cs) (xs := xs) (by simpa using hxl) (by omega) (fun i g hg => by
        have := hf (i + 1) g (by simpa using hg)
        simpa using this) (fun x hx => hp x (by simp [hx])) (fun n hn => hw n (Or.inr hn))
      refine ⟨(y, z), ⟨_, _, ?_, hy, hz⟩, hy2, hz2⟩
      rw [← ho2, ← List.drop_drop, List.take_append_drop]

/-- A struct. -/
def repStruct {P : Program} {t : TypeId} {fs : Array Field} {α : Type} (ht : P.underlying t = some (.struct fs)) {L : List Field} (hL : fs.toList = L) (F : RepF P L 0 α) (hc : P.cellsOf t = F.total) : Rep P t α where
  is := F.is
  fine := F.fine
  len := by intro w x cs h; rw [F.len h, hc]
  keep := F.keep
  opened := by
    intro H enc w fuel cs x hf hlt hw
    obtain ⟨xs, n, rfl, rfl, hl, hxl, hel⟩ := DataW.trod_struct ht hf
    subst hL
    obtain ⟨y, hy, hy2⟩ := F.opened (cs := cs) (xs := xs) (n := n) (enc := enc) (w := w) (by simpa using hxl) (by rw [Nat.zero_add, hl, hc]) (fun i f hi => hel i f (by simpa using hi))
      (fun x hx p hp => hlt p (by simp only [List.mem_flatMap]; exact ⟨x, hx, hp⟩)) (fun k hk => hw k (by simpa [DataW.weights, ht] using hk))
    exact ⟨y, hy, hy2⟩
end Go.Fl
