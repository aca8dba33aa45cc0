/-
  5 texts in one file: R5Ref, Law5A, Rep, Skip, SetB.
-/
import Derived.BigQuiet
import Derived.Laws.Closers25b
import Derived.Test.YtjghengkpbokaaaG2
import Derived.Test.YtjghengkpbokaaaG3
import Derived.Test.YtjghengkpbokaaaG5
import Derived.Test.YtjghengkpbokaaaG16
import Derived.Test.YtjghengkpbokaaaG17
import Derived.Test.YtjghengkpbokaaaG19

/-
  The reference keeps chapter 5 ('refN').
-/
namespace Go.Proofs.Ytjghengkpbokaaa
open Go.ChangeShapes Go.WideShapes Go.ChangeAt Go.RowKit Go.Fl

theorem rver_any (w : World) (p : BitVec 64) (lv : Int) (m : BitVec 64) (v : Value) (l : List UInt8) (r : Bool) (hv : VB w v l) (hver : Hid (verM p lv m l = r)) :
    Calls Try.prog 20 #[nm p, .int .i64 lv, nm m, v] w fun e w' => e = .returned (.bool r) ∧ Below w.heap.size w w' := by
  obtain ⟨A, c, rfl, h1, h2, hr⟩ := hv
  by_cases hl1 : lv = 1
  · subst hl1
    by_cases hS : (l.length : Int) = 186
    · have e : 186 = l.length := by omega
      rw [← e]
      exact rver_go1 w p m _ l c e (by omega) h2 rfl A hr r hver
    · have er : r = false := by rw [← hver.out]; exact ver_size p 1 m l hS
      subst er
      exact rver_len w p m 1 186 (by omega) (by omega) (Lib.hid size_one) A l.length c hS
  · by_cases hl2 : lv = 2
    · subst hl2
      by_cases hS : (l.length : Int) = 370
      · have e : 370 = l.length := by omega
        rw [← e]
        exact rver_go2 w p m _ l c e (by omega) h2 rfl A hr r hver
      · have er : r = false := by rw [← hver.out]; exact ver_size p 2 m l hS
        subst er
        exact rver_len w p m 2 370 (by omega) (by omega) (Lib.hid size_two) A l.length c hS
    · have er : r = false := by
        rw [← hver.out]
        unfold verM
        rw [if_neg (fun hh => hh.1.elim hl1 hl2)]
      subst er
      exact rver_lv w p m lv A l.length c (by omega)

theorem refN : ManyS Try.prog 5 11 13 18 16 20 where
  cap := fun w n _ => (rcap_any w n).mono (by rintro e w' ⟨rfl, rfl⟩; exact ⟨rfl, Below.refl _ _⟩)
  size := fun w n _ => (rsize_any w n).mono (by rintro e w' ⟨rfl, rfl⟩; exact ⟨rfl, Below.refl _ _⟩)
  pub := fun w s n y _ hy => rmpub_any w s n y hy
  sign := fun w s lv leaf m r _ _ hr => rmsign_any w s lv leaf m r hr
  ver := fun w p lv m v l r _ hv _ hr => rver_any w p lv m v l r hv hr
end Go.Proofs.Ytjghengkpbokaaa

/-
  The small functions beside the laws of layer 5: awake.
-/
namespace Go.Proofs.Ytjghengkpbokaaa
open Go.ChangeShapes Go.WideShapes Go.ChangeAt Go.RowKit Go.Fl

theorem cells1 : Try.prog.cellsOf 5 = 1 := by kernel_rfl
theorem cells8 : Try.prog.cellsOf 30 = 8 := by kernel_rfl
theorem bytes1 : Try.prog.bytesOf 5 = 1 := by kernel_rfl
theorem bytes8 : Try.prog.bytesOf 30 = 8 := by kernel_rfl
theorem own : ownKnob Try.prog.godebug = none := by kernel_rfl
theorem size_three : sizeF 3 = 0 := rfl

attribute [local go_sem] cap_one cap_two size_two size_three

theorem awake_any (w : World) : Calls Try.prog 14 #[] w fun e w' => e = .returned (.bool true) ∧ Below w.heap.size w w' := by
  have hB := Below.refl w.heap.size w
  go_enter Try.func14, Try.ntmps14
  go_wp2_with (first
    | (go_at_call 10; refine (manN.cap _ _ ⟨by omega, by omega⟩).mono ?_; rintro e w1 ⟨rfl, hb⟩; have hB := hB.trans (hb.mono hB.size))
    | (go_at_call 12; refine (manN.size _ _ ⟨by omega, by omega⟩).mono ?_; rintro e w1 ⟨rfl, hb⟩; have hB := hB.trans (hb.mono hB.size))
    | fail)
  go_ret
  exact ⟨rfl, hB⟩
end Go.Proofs.Ytjghengkpbokaaa

/-
  What it is that cells spell a thing, for any type of the program ('Rep'): numbers, names, strings, slices of bytes and of names, structs, slices of what is spelt already ('repSlice'); how an argument of such a type is opened ('open_rep').
-/
namespace Go.Fl
open Go.ChangeShapes Go.WideShapes Go.ChangeAt Go.RowKit

/-- How a type's cells spell a thing. 'fine': what an argument's reach says of it. -/
structure Rep (P : Program) (t : TypeId) (α : Type) where
  is : World → α → List Value → Prop
  fine : α → Prop
  len : ∀ {w : World} {x : α} {cs : List Value}, is w x cs → cs.length = P.cellsOf t
  keep : ∀ {w w' : World} {x : α} {cs : List Value}, is w x cs → Below w.heap.size w w' → is w' x cs
  opened : ∀ {H : Type} {enc : TypeId × Value → H} {w : World} {fuel : Nat} {cs : List Value} {x : DataW H × List MemPlace}, DataW.trod enc P w 0 (fun _ => true) true fuel t cs = some x →
    (∀ p ∈ x.2, p.block < w.heap.size) → (∀ n ∈ DataW.weights P t x.1, n ≤ reachBytes) → ∃ y, is w y cs ∧ fine y

section
variable {P : Program} {e : TypeId} {α : Type}
/-- This value is a slice of these things. -/
def VS (R : Rep P e α) (w : World) (v : Value) (l : List α) : Prop :=
  ∃ A c, v = .slice A l.length c ∧ l.length ≤ c ∧ c ≤ 9223372036854775807 ∧ (0 < l.length → ∃ g off, A = some ⟨g, off, none⟩ ∧ g < w.heap.size ∧
    ∀ i x, l[i]? = some x → ∃ cs, R.is w x cs ∧ ∀ j, j < P.cellsOf e → w.cell? ⟨g, off + i * P.cellsOf e + j, none⟩ = cs[j]?)
variable {R : Rep P e α} {w w' : World} {v : Value} {l : List α}
theorem VS.next (h : VS R w v l) (hb : Below w.heap.size w w') : VS R w' v l := by
  obtain ⟨A, c, rfl, h1, h2, h3⟩ := h
  refine ⟨A, c, rfl, h1, h2, fun hp => ?_⟩
  obtain ⟨g, off, rfl, hg, hc⟩ := h3 hp
  refine ⟨g, off, rfl, Nat.lt_of_lt_of_le hg hb.size, fun i x hi => ?_⟩
  obtain ⟨cs, hcs, hj⟩ := hc i x hi
  exact ⟨cs, R.keep hcs hb, fun j hj' => (hb.cell hg).trans (hj j hj')⟩
theorem VS.nil (R : Rep P e α) (w : World) : VS R w (.slice none 0 0) [] := ⟨none, 0, rfl, by simp, by omega, fun h => absurd h (by simp)⟩
/-- One thing of the slice. -/
theorem VS.at_ (h : VS R w v l) {i : Nat} {x : α} (hi : l[i]? = some x) : ∃ g off c, v = .slice (some ⟨g, off, none⟩) l.length c ∧ g < w.heap.size ∧
    ∃ cs, R.is w x cs ∧ ∀ j, j < P.cellsOf e → w.cell? ⟨g, off + i * P.cellsOf e + j, none⟩ = cs[j]? := by
  obtain ⟨A, c, rfl, h1, h2, h3⟩ := h
  obtain ⟨g, off, rfl, hg, hc⟩ := h3 (by have := (List.getElem?_eq_some_iff.1 hi).1; omega)
  exact ⟨g, off, c, rfl, hg, hc i x hi⟩
theorem VS.form (h : VS R w v l) : ∃ A c, v = .slice A l.length c ∧ l.length ≤ c ∧ c ≤ 9223372036854775807 := by
  obtain ⟨A, c, rfl, h1, h2, _⟩ := h
  exact ⟨A, c, rfl, h1, h2⟩
end

theorem weights_all {H : Type} {P : Program} {e : TypeId} {d : DataW H} {ds : List (DataW H)} (h : d ∈ ds) : ∀ n ∈ DataW.weights P e d, n ∈ DataW.weightsAll P e ds := by
  induction ds with
  | nil => cases h
  | cons x r ih =>
    intro n hn
    simp only [DataW.weightsAll, List.mem_append]
    rcases List.mem_cons.1 h with rfl | h
    · exact Or.inl hn
    · exact Or.inr (ih h n hn)

/-- Slices of what is spelt already. -/
def repSlice {P : Program} {t e : TypeId} {α : Type} [Inhabited α] (ht : P.underlying t = some (.slice e)) (R : Rep P e α) (h1 : P.cellsOf t = 1) (h0 : 0 < P.cellsOf e) : Rep P t (List α) where
  is w l cs := ∃ v, cs = [v] ∧ VS R w v l
  fine l := l.length * P.bytesOf e ≤ reachBytes ∧ ∀ x ∈ l, R.fine x
  len := by
    rintro w x cs ⟨v, rfl, _⟩
    rw [h1]
    rfl
  keep := by
    rintro w w' x cs ⟨v, rfl, h⟩ hb
    exact ⟨v, rfl, h.next hb⟩
  opened := by
    intro H enc w fuel cs x hf hlt hw
    rcases Deep.open_slice ht hf with ⟨rfl, _⟩ | ⟨a, len, cap, m, n, D, Pl, rfl, _, hl, hm, hmm, rfl, hel⟩
    · exact ⟨[], ⟨_, rfl, VS.nil R w⟩, by simp [reachBytes], by simp⟩
    · simp only [if_true] at hmm
      have hwts : (len + (m - len)) * P.bytesOf e ≤ reachBytes := hw _ (by simp [DataW.weights, ht])
      have hmem : ∀ i, i < len → ∀ k ∈ DataW.weights P e (D i), k ≤ reachBytes := fun i hi k hk => hw k (by
        simp only [DataW.weights, ht, List.mem_cons, List.mem_append]
        exact Or.inr (Or.inl (weights_all (List.mem_map.2 ⟨i, by simpa using hi, rfl⟩) k hk)))
      have hplace : ∀ i, i < len → ∀ p ∈ Pl i, p.block < w.heap.size := fun i hi p hp => hlt p (by
        simp only [List.mem_append, List.mem_flatMap]
        exact Or.inr ⟨i, by simp; omega, hp⟩)
      obtain ⟨f, hfn⟩ := Deep.choose_lt (p := fun i y => ∃ cs', w.cells? 0 (a.add (i * P.cellsOf e)) (P.cellsOf e) = some cs' ∧ R.is w y cs' ∧ R.fine y) (n := len) (fun i hi => by
        obtain ⟨cs', h1, h2⟩ := hel i (by omega)
        obtain ⟨y, hy, hy2⟩ := R.opened h2 (hplace i hi) (hmem i hi)
        exact ⟨y, cs', h1, hy, hy2⟩)
      refine ⟨(List.range len).map f, ⟨_, rfl, some a, cap, by simp, by simpa using hl, hm, fun hp => ?_⟩, ?_, ?_⟩
      · have hp' : 0 < len := by simpa using hp
        obtain ⟨b, off, spot⟩ := a
        obtain ⟨cs0, hc0, _, _⟩ := hfn 0 hp'
        obtain ⟨_, hl0, hcc⟩ := World.cells?_some hc0
        have hspot : spot = none := by
          have h := hcc 0 h0
          simp only [Nat.zero_mul, Addr.add] at h
          have hlt0 : 0 < cs0.length := by omega
          rw [List.getElem?_eq_getElem hlt0] at h
          exact World.cell?_spot h
        subst hspot
        have hpos : 0 < m * P.cellsOf e := Nat.mul_pos (by omega) h0
        refine ⟨b, off, rfl, hlt (.cell b off) (by
          simp only [List.mem_append]
          exact Or.inl (MemPlace.mem_row.2 ⟨0, hpos, by simp⟩)), fun i x hi => ?_⟩
        have hil : i < len := by
          have := (List.getElem?_eq_some_iff.1 hi).1
          simpa using this
        have hx : f i = x := by simpa [hil] using hi
        obtain ⟨cs', hc', hr, _⟩ := hfn i hil
        rw [hx] at hr
        obtain ⟨_, _, hcj⟩ := World.cells?_some hc'
        refine ⟨cs', hr, fun j hj => ?_⟩
        have := hcj j hj
        rw [add_plain, add_plain] at this
        exact this
      · simp only [List.length_map, List.length_range]
        exact Nat.le_trans (Nat.mul_le_mul_right _ (by omega)) hwts
      · intro x hx
        rw [List.mem_map] at hx
        obtain ⟨i, hi, rfl⟩ := hx
        obtain ⟨_, _, _, h⟩ := hfn i (by simpa using hi)
        exact h

/-- An argument that is one cell is opened. -/
theorem open_rep {H : Type} {enc : TypeId × Value → H} {P : Program} {w : World} {t : TypeId} {α : Type} (R : Rep P t α) {v : Value} {d : DataW H} {p : List MemPlace} (hv : v.cells = #[v])
    (h : DataW.Trod enc P w 0 (fun _ => true) true t v d p) (hlt : ∀ x ∈ p, x.block < w.heap.size)
    {tys : List TypeId} {ds : List (DataW H)} (hsz : (DataW.weightsEach P tys ds).all (· ≤ reachBytes) = true) {j : Nat} (hj : tys[j]? = some t) (hd : ds[j]? = some d) :
    ∃ y, R.is w y [v] ∧ R.fine y := by
  obtain ⟨fuel, hf⟩ := h
  rw [hv] at hf
  refine R.opened hf hlt fun n hn => ?_
  have := List.all_eq_true.1 hsz n (DataW.weights_mem_each hj hd n hn)
  simpa using this

/-! ### The leaves -/
section
variable {P : Program}
/-- One thing of a whole of kind k that one cell spells. -/
def repByte {t : TypeId} (ht : P.underlying t = some (.int .u8)) (hc : P.cellsOf t = 1) : Rep P t UInt8 where
  is _ b cs := cs = [B b]
  fine _ := True
  len := by rintro w x cs rfl; rw [hc]; rfl
  keep := fun h _ => h
  opened := by
    intro H enc w fuel cs x hf _ _
    obtain ⟨n, ec, rfl, wn⟩ := DataW.trod_int ht hf
    have := bounds_u8 wn
    obtain ⟨b, rfl⟩ := ub_of n this.1 this.2
    exact ⟨b, ec, trivial⟩
def repU64 {t : TypeId} (ht : P.underlying t = some (.int .u64)) (hc : P.cellsOf t = 1) : Rep P t (BitVec 64) where
  is _ b cs := cs = [U b]
  fine _ := True
  len := by rintro w x cs rfl; rw [hc]; rfl
  keep := fun h _ => h
  opened := by
    intro H enc w fuel cs x hf _ _
    obtain ⟨n, ec, rfl, wn⟩ := DataW.trod_int ht hf
    have := bounds_u64 wn
    obtain ⟨b, rfl⟩ := iu_of n this.1 this.2
    exact ⟨b, ec, trivial⟩
def repInt {t : TypeId} (ht : P.underlying t = some (.int .i64)) (hc : P.cellsOf t = 1) : Rep P t Int where
  is _ n cs := cs = [.int .i64 n]
  fine n := I64 n
  len := by rintro w x cs rfl; rw [hc]; rfl
  keep := fun h _ => h
  opened := by
    intro H enc w fuel cs x hf _ _
    obtain ⟨n, ec, rfl, wn⟩ := DataW.trod_int ht hf
    exact ⟨n, ec, bounds_i64 wn⟩
def repBool {t : TypeId} (ht : P.underlying t = some .bool) (hc : P.cellsOf t = 1) : Rep P t Bool where
  is _ b cs := cs = [.bool b]
  fine _ := True
  len := by rintro w x cs rfl; rw [hc]; rfl
  keep := fun h _ => h
  opened := by
    intro H enc w fuel cs x hf _ _
    obtain ⟨b, ec, rfl⟩ := DataW.trod_bool ht hf
    exact ⟨b, ec, trivial⟩
def repName {t tb : TypeId} (ht : P.underlying t = some (.array 8 tb)) (hb : P.underlying tb = some (.int .u8)) (hc : P.cellsOf tb = 1) (hs : P.cellsOf t = 8) : Rep P t (BitVec 64) where
  is _ n cs := cs = (nmC n).toList
  fine _ := True
  len := by rintro w x cs rfl; rw [hs]; rfl
  keep := fun h _ => h
  opened := by
    intro H enc w fuel cs x hf _ _
    obtain ⟨n, ec, _⟩ := trod_name ht hb hc hs hf
    exact ⟨n, ec, trivial⟩
/-- A slice of bytes. -/
def repBytes {t tb : TypeId} (ht : P.underlying t = some (.slice tb)) (hb : P.underlying tb = some (.int .u8)) (hc : P.cellsOf tb = 1) (h1 : P.cellsOf t = 1) (hby : P.bytesOf tb = 1) : Rep P t (List UInt8) where
  is w l cs := ∃ v, cs = [v] ∧ VB w v l
  fine l := l.length ≤ 140737488351232
  len := by rintro w x cs ⟨v, rfl, _⟩; rw [h1]; rfl
  keep := by rintro w w' x cs ⟨v, rfl, h⟩ hb; exact ⟨v, rfl, h.next hb⟩
  opened := by
    intro H enc w fuel cs x hf hlt hw
    obtain ⟨l, ⟨v, rfl, A, c, rfl, h2, h3, h4⟩, hl, _⟩ := (repSlice ht (repByte hb hc) h1 (by omega)).opened hf hlt hw
    refine ⟨l, ⟨_, rfl, A, c, rfl, h2, h3, fun hp => ?_⟩, by rw [hby] at hl; simp only [reachBytes] at hl; omega⟩
    obtain ⟨g, off, rfl, hg, hcell⟩ := h4 hp
    refine ⟨g, off, rfl, hg, fun i b hi => ?_⟩
    obtain ⟨cs, rfl, hj⟩ := hcell i b hi
    have := hj 0 (by omega)
    rw [hc, Nat.mul_one, Nat.add_zero] at this
    exact this
/-- A slice of names. -/
def repNames {t tn tb : TypeId} (ht : P.underlying t = some (.slice tn)) (hn : P.underlying tn = some (.array 8 tb)) (hb : P.underlying tb = some (.int .u8)) (hc : P.cellsOf tb = 1) (hs : P.cellsOf tn = 8) (h1 : P.cellsOf t = 1) (hby : P.bytesOf tn = 8) : Rep P t (List (BitVec 64)) where
  is w l cs := ∃ v, cs = [v] ∧ VN w v l
  fine l := l.length ≤ 17592186044160
  len := by rintro w x cs ⟨v, rfl, _⟩; rw [h1]; rfl
  keep := by rintro w w' x cs ⟨v, rfl, h⟩ hb; exact ⟨v, rfl, h.next hb⟩
  opened := by
    intro H enc w fuel cs x hf hlt hw
    obtain ⟨l, ⟨v, rfl, A, c, rfl, h2, h3, h4⟩, hl, _⟩ := (repSlice ht (repName hn hb hc hs) h1 (by omega)).opened hf hlt hw
    refine ⟨l, ⟨_, rfl, A, c, rfl, h2, h3, fun hp => ?_⟩, by rw [hby] at hl; simp only [reachBytes] at hl; omega⟩
    obtain ⟨g, off, rfl, hg, hcell⟩ := h4 hp
    refine ⟨g, off, rfl, hg, fun i b hi j hj' => ?_⟩
    obtain ⟨cs, rfl, hj⟩ := hcell i b hi
    have := hj j (by omega)
    rw [hs] at this
    rw [this]
    simp
end

/-! ### Structs -/
/-- The fields of a struct from cell o on. -/
structure RepF (P : Program) (fs : List Field) (o : Nat) (α : Type) where
  is : World → α → List Value → Prop
  fine : α → Prop
  total : Nat
  len : ∀ {w : World} {x : α} {cs : List Value}, is w x cs → cs.length = total
  keep : ∀ {w w' : World} {x : α} {cs : List Value}, is w x cs → Below w.heap.size w w' → is w' x cs
  opened : ∀ {H : Type} {enc : TypeId × Value → H} {w : World} {n : Nat} {cs : List Value} {xs : List (DataW H × List MemPlace)}, xs.length = fs.length → cs.length = o + total →
    (∀ (i : Nat) (f : Field), fs[i]? = some f → DataW.trod enc P w 0 (fun _ => true) true n f.type ((cs.drop f.offset).take (P.cellsOf f.type)) = xs[i]?) →
    (∀ x ∈ xs, ∀ p ∈ x.2, p.block < w.heap.size) → (∀ n ∈ DataW.weightsEach P (fs.map (·.type)) (xs.map (·.1)), n ≤ reachBytes) → ∃ y, is w y (cs.drop o) ∧ fine y

def repNil (P : Program) (o : Nat) : RepF P [] o Unit where
  is _ _ cs := cs = []
  fine _ := True
  total := 0
  len := by rintro w x cs rfl; rfl
  keep := fun h _ => h
  opened := by
    intro H enc w n cs xs _ hl _ _ _
    exact ⟨(), List.eq_nil_of_length_eq_zero (by simp; omega), trivial⟩

def repCons {P : Program} {f : Field} {fs : List Field} {o o2 : Nat} {α β : Type} (R : Rep P f.type α) (ho : f.offset = o) (ho2 : o + P.cellsOf f.type = o2) (F : RepF P fs o2 β) : RepF P (f :: fs) o (α × β) where
  is w x cs := ∃ c1 c2, cs = c1 ++ c2 ∧ R.is w x.1 c1 ∧ F.is w x.2 c2
  fine x := R.fine x.1 ∧ F.fine x.2
  total := P.cellsOf f.type + F.total
  len := by
    rintro w x cs ⟨c1, c2, rfl, h1, h2⟩
    rw [List.length_append, R.len h1, F.len h2]
  keep := by
    rintro w w' x cs ⟨c1, c2, rfl, h1, h2⟩ hb
    exact ⟨c1, c2, rfl, R.keep h1 hb, F.keep h2 hb⟩
  opened := by
    intro H enc w n cs xs hxl hl hf hp hw
    cases xs with
    | nil => simp at hxl
    | cons x xs =>
      have h0 := hf 0 f rfl
      rw [ho] at h0
      simp only [List.getElem?_cons_zero] at h0
      simp only [List.map_cons, DataW.weightsEach, List.mem_append] at hw
      obtain ⟨y, hy, hy2⟩ := R.opened h0 (hp x (by simp)) (fun n hn => hw n (Or.inl hn))
      obtain ⟨z, hz, hz2⟩ := F.opened (cs := cs) (xs := xs) (by simpa using hxl) (by omega) (fun i g hg => by
        have := hf (i + 1) g (by simpa using hg)
        simpa using this) (fun x hx => hp x (by simp [hx])) (fun n hn => hw n (Or.inr hn))
      refine ⟨(y, z), ⟨_, _, ?_, hy, hz⟩, hy2, hz2⟩
      rw [← ho2, ← List.drop_drop, List.take_append_drop]

/-- A struct. -/
def repStruct {P : Program} {t : TypeId} {fs : Array Field} {α : Type} (ht : P.underlying t = some (.struct fs)) {L : List Field} (hL : fs.toList = L) (F : RepF P L 0 α) (hc : P.cellsOf t = F.total) : Rep P t α where
  is := F.is
  fine := F.fine
  len := by intro w x cs h; rw [F.len h, hc]
  keep := F.keep
  opened := by
    intro H enc w fuel cs x hf hlt hw
    obtain ⟨xs, n, rfl, rfl, hl, hxl, hel⟩ := DataW.trod_struct ht hf
    subst hL
    obtain ⟨y, hy, hy2⟩ := F.opened (cs := cs) (xs := xs) (n := n) (enc := enc) (w := w) (by simpa using hxl) (by rw [Nat.zero_add, hl, hc]) (fun i f hi => hel i f (by simpa using hi))
      (fun x hx p hp => hlt p (by simp only [List.mem_flatMap]; exact ⟨x, hx, hp⟩)) (fun k hk => hw k (by simpa [DataW.weights, ht] using hk))
    exact ⟨y, hy, hy2⟩
end Go.Fl

/-
  An operation of a drawn region whose guard is false is passed over.
-/
namespace Go.Fl
open Go.ChangeShapes Go.WideShapes Go.ChangeAt Go.RowKit

theorem held_skip {P : Program} {md : Region.Mode} {ops : Array Oper} {Q : Exit → Act → World → Prop} {S : World → Prop} {fuel : Nat} {listed : Array Bool} {a : Act} {w : World} (i d : Nat) {oi : Oper} (hi : ops[i]? = some oi) (h4 : Region.wanted oi (yielded ops a.tmps) = false) (hS : S w)
    (h : wpAnyH P md ops Q S fuel (listed.setIfInBounds i true) (a.put (some d) undef) w) (hd : oi.dst = some d := by rfl)
    (h1 : Region.noSelect ops = true := by kernel_rfl) (h2 : Region.free md ops listed i = true := by kernel_rfl) (h3 : (Region.ready md ops listed).contains i = true := by kernel_rfl)
    (h5 : ∀ c a w, Q (.panic c) (a.put (some d) undef) w → Q (.panic c) a w := by exact fun _ _ _ h => h) :
    wpAnyH P md ops Q S (fuel + 1) listed a w :=
  wpAnyH_take hi h1 h2 h3 (by rw [hd]; exact h5) (Or.inr ⟨h4, rfl⟩) hS (by rw [hd]; exact h)
end Go.Fl

/-
  One byte of a slice of the call's own is changed; a byte xored.
-/
namespace Go.Fl
open Go.ChangeShapes Go.WideShapes Go.ChangeAt Go.RowKit

theorem xor_u8 (a b : UInt8) : ∃ z : UInt8, bits .xor .u8 (ub a) (ub b) = ub z := ub_of _ (bits_lo_u8 _ _ _) (bits_hi_u8 _ _ _)

/-- One byte of a slice of the call's own. -/
theorem ob_set {w : World} {base : Nat} {tb : TypeId} {v : Value} {l : List UInt8} (h : OB w base tb v l) (j : Nat) (hj : j < l.length) :
    ∃ g cap b, v = .slice (some ⟨g, 0, none⟩) l.length cap ∧ base ≤ g ∧ g < w.heap.size ∧ l[j]? = some b ∧ w.cell? ⟨g, j, none⟩ = some (B b) ∧ w.frozen? ⟨g, j, none⟩ = false ∧ ∀ z, OB (w.setCell ⟨g, j, none⟩ (B z)) base tb v (l.set j z) := by
  obtain ⟨hl, h0 | ⟨g, cap, cur, rfl, hg, hh, hn, hm, hs, ht⟩⟩ := h
  · omega
  · have hcur : j < cur.size := by omega
    have hb : (l.map B)[j]? = some (B l[j]) := by simp [hj]
    have hc : cur[j]? = some (B l[j]) := by
      rw [← ht, Nat.mul_one, List.getElem?_take, if_pos hj] at hb
      simpa using hb
    refine ⟨g, cap, l[j], rfl, hg, (Array.getElem?_eq_some_iff.1 hh).1, by simp [hj], by rw [cell_of_row w g j cur tb (0, 0) hh]; exact hc, frozen_of_row w g j cur tb hh, fun z => ?_⟩
    refine ⟨by simp, .inr ⟨g, cap, cur.setIfInBounds j (B z), by simp, hg, ?_, by simpa using hn, hm, by simpa using hs, ?_⟩⟩
    · have e := setCell_eq_setRow w g j cur tb (0, 0) (B z) hh
      rw [e]
      exact setRow_heap w g cur _ tb _ hh
    · rw [Nat.mul_one] at ht ⊢
      rw [List.length_set, Array.toList_setIfInBounds, List.take_set, ht, List.map_set]
end Go.Fl
