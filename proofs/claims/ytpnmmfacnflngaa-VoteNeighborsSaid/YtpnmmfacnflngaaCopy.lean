/-
  copy of bytes into a block that is known whole, within a drawn region; where the bytes come from.
-/
import Derived.Test.YtpnmmfacnflngaaNames
import Derived.Laws.CopyRow
namespace Go.Fl
open Go.ChangeShapes Go.WideShapes Go.ChangeAt Go.RowKit

theorem src_cells {w w' : World} {g off : Nat} {l : List UInt8} (hcell : ∀ (i : Nat) (b : UInt8), l[i]? = some b → w.cell? ⟨g, off + i, none⟩ = some (B b)) (hg : g < w.heap.size) (hb : Below w.heap.size w w') (k : Nat) (cs : List UInt8) (hc : (l.drop k).take cs.length = cs) :
    ∀ (j : Nat) (v : Value), (cs.map B)[j]? = some v → w'.cell? ((⟨g, off + k, none⟩ : Addr).add j) = some v := fun j v hj => by
  rw [List.getElem?_map] at hj
  obtain ⟨u, hu, rfl⟩ := Option.map_eq_some_iff.1 hj
  have hadd : (⟨g, off + k, none⟩ : Addr).add j = ⟨g, off + (k + j), none⟩ := by unfold Addr.add; split <;> simp_all [Nat.add_assoc]
  rw [hadd, hb.cell (p := ⟨g, off + (k + j), none⟩) hg]
  apply hcell
  rw [← hc, List.getElem?_take] at hu
  split at hu
  · rwa [List.getElem?_drop] at hu
  · cases hu
/-- copy of bytes into a block that is known whole. -/
theorem oper_copy_is {P : Program} {Q : Exit → Act → World → Prop} {a : Act} {w : World} {o : Oper} {K : Act → World → Prop} (d : Nat) (x y : Operand) (t : TypeId)
    (ho : o.op = .call { callee := .builtin .copy, args := #[x, y], argTypes := #[t, t] }) (elem : TypeId) (hu : P.underlying t = some (.slice elem)) (hs : (P.info? elem).map (·.size) = some 1)
    (g off n c : Nat) (T : TypeId) (cur : Array Value) (s : Addr) (m c2 : Nat) (cs : List Value) (hx : a.eval x = .slice (some ⟨g, off, none⟩) n c) (hy : a.eval y = .slice (some s) m c2) (hz : Is w g T cur)
    (hn : cs.length = Nat.min m n) (hsrc : ∀ (j : Nat) (v : Value), cs[j]? = some v → w.cell? (s.add j) = some v) (hfit : off + cs.length ≤ cur.size) (h1 : ∀ v ∈ cs, v.oneCell' = true)
    (new : Array Value) (hnew : (cur.toList.take off ++ cs ++ cur.toList.drop (off + cs.length)).toArray = new)
    (h : ∀ w', Is w' g T new → Below g w w' → (∀ b, b ≠ g → w'.heap[b]? = w.heap[b]?) → K (a.put (some d) (goInt cs.length)) w') (hd : o.dst = some d := by rfl) : Oper.wp P o a w K Q := by
  have hrun := run_copy_row (P := P) w t t o.type elem g off n c s m c2 cur T cs hu hs hz hn hsrc hfit h1
  rw [hnew] at hrun
  unfold Oper.wp
  simp [execOp, ho, resolve, invoke, builtin, hx, hy, hrun, Result.andThen]
  show K (a.put o.dst _) _
  rw [hd]
  exact h _ (setRow_heap w g _ _ T _ hz) (below_setRow (Below.refl _ _) (Nat.le_refl _) _) (fun b hb => setRow_other w g b new hb)
end Go.Fl
