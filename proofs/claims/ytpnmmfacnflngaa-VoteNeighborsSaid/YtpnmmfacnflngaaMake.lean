/-
  make of a slice with a length that is a variable, copy of bytes into it, and cuts of slices that have an address; nothing of the program is spoken of here.
-/
import Derived.Test.YtpnmmfacnflngaaNames
import Derived.Laws.OwnMore
import Derived.Lib.SmallJoins
namespace Go.Fl
open Go.ChangeShapes Go.WideShapes Go.ChangeAt Go.RowKit

/-- 'make([]T, n, m)': a new row of m elements, of which n belong to the slice. What the row holds is let open. -/
theorem wpList_make_sl {P : Program} {w : World} {ops : Array Oper} {rest : List Oper} {o : Oper} {a : Act} {Q : Exit → Act → World → Prop} (hgd : o.guard = none) (l c : Operand) (t : TypeId)
    (ho : o.op = Op.makeSlice t l c) (e : TypeId) (i : TypeInfo) (z : Value) (size by_ : Nat) (h1 : P.underlying t = some (.slice e)) (h2 : P.info? e = some i) (h3 : i.zero = some z) (h4 : i.size = size) (h5 : i.bytes = by_)
    (kl kc : IntKind) (L C : Int) (n m : Nat) (hl : a.eval l = .int kl L) (hc : a.eval c = .int kc C) (hL : L = (n : Int)) (hC : C = (m : Int)) (hnm : n ≤ m) (hb : by_ * m ≤ 281474976710656) (h63 : m ≤ 9223372036854775807)
    (hK : ∀ (Z : List Value) (w' : World), Hid (Z.length = m * size) → Is w' w.heap.size e Z.toArray → Fr w 1 w' → wpList P ops Q rest (a.put o.dst (.slice (some ⟨w.heap.size, 0, none⟩) n m)) w') : wpList P ops Q (o :: rest) a w := by
  refine wpList_plain hgd fun K hK' => ?_
  subst hL hC h4 h5
  have hb' : (i.bytes : Int) * (m : Int) ≤ 281474976710656 := by
    have h : ((i.bytes * m : Nat) : Int) ≤ 281474976710656 := by omega
    rwa [Int.natCast_mul] at h
  have hr := run_make (P := P) w t e i z h1 h2 h3 kl kc n m (by omega) (by omega) hb' (by omega)
  simp only [Int.toNat_natCast] at hr
  unfold Oper.wp
  simp [execOp, ho, hl, hc, hr, Result.andThen]
  exact hK' _ _ (hK (madeCells z.cells (m * i.size)).toList _ (Lib.hid (by simp [size_madeCells])) (Is.new w e _) ((Fr.refl w).alloc _))

theorem rb_src {w w' : World} {n : Nat} {A : Option Addr} {l : List UInt8} (h : RB w n A l) (hb : Below n w w') {cs : List Value} (hcs : cs = l.map B) (hp : 0 < cs.length) :
    ∃ ad, A = some ad ∧ ∀ j v, cs[j]? = some v → w'.cell? (ad.add j) = some v := by
  subst hcs
  obtain ⟨g, off, rfl, hg, hc⟩ := h (by simpa using hp)
  exact ⟨_, rfl, fun j v hj => rb_news w' (h.keep hb) j v hj⟩

/-- Bytes copied to the head of a row are a slice of the call's own. -/
theorem ob_splice {w : World} {g m n base : Nat} {e : TypeId} {Z cs : List Value} {l : List UInt8} (HG : Hid (w.heap[g]? = some (.cells (splice Z 0 cs).toArray e (0, 0)))) (hZ : Hid (Z.length = m * 1)) (hcs : cs = l.map B) (hn : n = l.length) (hm : n ≤ m) (h63 : m ≤ 9223372036854775807) (hb : base ≤ g) :
    OB w base e (.slice (some ⟨g, 0, none⟩) n m) l := by
  subst hcs hn
  have hz := hZ.out
  refine ⟨by simp, .inr ⟨g, m, _, rfl, hb, HG.out, hm, by simp only [maxLen]; omega, ?_, ?_⟩⟩
  · simp [splice]
    omega
  · simp [splice]

/-- x[k:], the slice has an address and the cut lies within it. -/
theorem run_from_at {P : Program} {ts te : TypeId} {i : TypeInfo} (hs : P.underlying ts = some (.slice te)) (hi : P.info? te = some i) (h1 : i.size = 1) (g off n c k : Nat) {X : Int} (hX : Hid (X = (k : Int))) (hk : k ≤ n) (hc : k < c) (W : World) :
    (Instr.slice ts (.slice (some ⟨g, off, none⟩) n c) (some (.int .i64 X)) none none).run P W = .ok (.slice (some ⟨g, off + k, none⟩) (n - k) (c - k)) W := by
  rw [hX.out, run_slice_from hs hi h1 _ n c k hk W, if_neg (by omega)]
  simp [add_plain]

/-- x[a:b], the slice has an address and the cut lies within it. -/
theorem run_range_at {P : Program} {ts te : TypeId} {i : TypeInfo} (hs : P.underlying ts = some (.slice te)) (hi : P.info? te = some i) (h1 : i.size = 1) (g off n c k m : Nat) {X Y : Int} (hX : X = (k : Int)) (hY : Y = ((k + m : Nat) : Int)) (hb : k + m ≤ c) (hc : k < c) (W : World) :
    (Instr.slice ts (.slice (some ⟨g, off, none⟩) n c) (some (.int .i64 X)) (some (.int .i64 Y)) none).run P W = .ok (.slice (some ⟨g, off + k, none⟩) m (c - k)) W := by
  rw [run_slice_range hs hi h1 _ n c X Y k (k + m) hX hY (by omega) hb W, if_neg (by omega)]
  have : k + m - k = m := by omega
  simp [add_plain, this]
/-- x[:b] -/
theorem run_slice_to {P : Program} {ts te : TypeId} {i : TypeInfo} (hs : P.underlying ts = some (.slice te)) (hi : P.info? te = some i) (_h1 : i.size = 1) (g off n c k : Nat) {X : Int} (hX : Hid (X = (k : Int))) (hk : k ≤ n) (hc : n ≤ c) (W : World) :
    (Instr.slice ts (.slice (some ⟨g, off, none⟩) n c) none (some (.int .i64 X)) none).run P W = .ok (.slice (some ⟨g, off, none⟩) k c) W := by
  have hx := hX.out
  subst hx
  have h3 : (k : Int) ≤ (c : Int) := by omega
  simp [Instr.slice, run_underlying hs, Instr.sliceBounds, run_sliceBound, sizeOf, typeInfo, hi, h3, add_plain]
theorem run_slice_fromx {P : Program} {ts te : TypeId} {i : TypeInfo} (hs : P.underlying ts = some (.slice te)) (hi : P.info? te = some i) (h1 : i.size = 1) (A : Option Addr) (n c k : Nat) {X : Int} (hX : Hid (X = (k : Int))) (hk : k ≤ n) (W : World) :
    (Instr.slice ts (.slice A n c) (some (.int .i64 X)) none none).run P W = .ok (.slice (if c = k then A else A.map (·.add k)) (n - k) (c - k)) W := by
  rw [hX.out]
  exact run_slice_from hs hi h1 A n c k hk W
end Go.Fl
