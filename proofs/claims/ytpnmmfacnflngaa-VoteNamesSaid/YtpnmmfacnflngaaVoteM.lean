/-
  Votes in memory: a vote's cells closed ('voteL'), == of two votes, loads of votes, how a vote that came in is opened.
-/
import Derived.Test.YtpnmmfacnflngaaVote
import Derived.Test.YtpnmmfacnflngaaSeat
import Derived.Test.YtpnmmfacnflngaaRep
import Derived.Test.YtpnmmfacnflngaaSkip
import Derived.Laws.StructEq
namespace Go.Fl
open Go.ChangeShapes Go.WideShapes Go.ChangeAt Go.RowKit
/-- An argument of several cells is opened. -/
theorem open_repA {H : Type} {enc : TypeId × Value → H} {P : Program} {w : World} {t : TypeId} {α : Type} (R : Rep P t α) {cs : Array Value} {d : DataW H} {p : List MemPlace}
    (h : DataW.Trod enc P w 0 (fun _ => true) true t (.agg cs) d p) (hlt : ∀ x ∈ p, x.block < w.heap.size)
    {tys : List TypeId} {ds : List (DataW H)} (hsz : (DataW.weightsEach P tys ds).all (· ≤ reachBytes) = true) {j : Nat} (hj : tys[j]? = some t) (hd : ds[j]? = some d) :
    ∃ y, R.is w y cs.toList ∧ R.fine y := by
  obtain ⟨fuel, hf⟩ := h
  refine R.opened hf hlt fun n hn => ?_
  have := List.all_eq_true.1 hsz n (DataW.weights_mem_each hj hd n hn)
  simpa using this
/-- A number stored over one cell of a block that is known whole. -/
theorem wpList_store_int {P : Program} {w : World} {ops : Array Oper} {Q : Exit → Act → World → Prop} {a : Act} {rest : List Oper} {o : Oper} (hgd : o.guard = none) (ty : TypeId) (x y : Operand) (ho : o.op = .store ty x y)
    (g off : Nat) (t : TypeId) (olds : List Value) (k : IntKind) (n : Int) (hx : a.eval x = .pointer (some ⟨g, off, none⟩)) (hy : a.eval y = .int k n) (hz : Is w g t olds.toArray) (hfit : off < olds.length) (hi : (P.info? ty).map (·.size) = some 1)
    (h : ∀ w', Is w' g t (olds.set off (.int k n)).toArray → Below g w w' → (∀ b, b ≠ g → w'.heap[b]? = w.heap[b]?) → wpList P ops Q rest (a.put o.dst undef) w') : wpList P ops Q (o :: rest) a w := by
  refine wpList_plain hgd fun K hK => ?_
  have hst := run_storeCells_at (P := P) g off t [Value.int k n] 0 olds.toArray w hz (by simp; omega) (fun v hv => by simp at hv; subst hv; rfl)
  have e : olds.take off ++ [Value.int k n] ++ olds.drop (off + 1) = olds.set off (.int k n) := by rw [List.set_eq_take_append_cons_drop, if_pos hfit]; simp
  have hrun : (storeVar ty ⟨g, off, none⟩ (.int k n)).run P w = .ok () (w.setRow g (olds.set off (.int k n)).toArray) := by
    cases hq : P.info? ty with
    | none => simp [hq] at hi
    | some i =>
      have hs' : i.size = 1 := by simp [hq] at hi; omega
      rw [← e]
      simp [Nat.add_zero] at hst
      simp [storeVar, sizeOf, typeInfo, hq, Value.cells, hs', hst]
  unfold Oper.wp execOp
  simp only [ho, hx, hy, Instr.storeAt, Instr.sureAddr, Sem.run_bind, Sem.run_pure, Result.andThen_ok, hrun]
  exact hK _ _ (h _ (setRow_heap w g _ _ t _ hz) (below_setRow (Below.refl _ _) (Nat.le_refl _) _) (fun b hb => setRow_other w g b _ hb))
end Go.Fl
namespace Go.Proofs.Ytpnmmfacnflngaa
open Go.ChangeShapes Go.WideShapes Go.ChangeAt Go.RowKit Go.Fl

attribute [local go_sem] equal_nm eqGuard_nm
/-- Are two votes equal? -/
def vtEq (a b : VoteV) : Bool := decide (a = b)
theorem part_int {P : Program} {t : TypeId} {k : IntKind} (ht : P.underlying t = some (.int k)) (cs : Array Value) (off : Nat) (v : Value) (h : cs[off]? = some v) (w : World) : (part t cs off).run P w = .ok v w := by
  simp [part, isAgg, run_underlying ht, h]
theorem part_name {P : Program} {tn tb : TypeId} (hn : P.underlying tn = some (.array 8 tb)) (hi : (P.info? tn).map (·.size) = some 8) (cs : Array Value) (off : Nat) (x : BitVec 64) (h : cs.extract off (off + 8) = nmC x) (w : World) : (part tn cs off).run P w = .ok (nm x) w := by
  cases hq : P.info? tn with
  | none => simp [hq] at hi
  | some i =>
    have hs : i.size = 8 := by simpa [hq] using hi
    simp [part, isAgg, run_underlying hn, sizeOf, typeInfo, hq, hs, h]
theorem eq_step {P : Program} {w : World} {d : Nat} (f : Field) (fs : List Field) (xs ys : Array Value) (x y : Value) (b : Bool) (hne : f.name ≠ "_") (hx : (part f.type xs f.offset).run P w = .ok x w) (hy : (part f.type ys f.offset).run P w = .ok y w)
    (he : (Op.equalIn d f.type x y).run P w = .ok b w) : (Op.eqFields d xs ys (f :: fs)).run P w = if b then (Op.eqFields d xs ys fs).run P w else .ok false w := by
  rw [Op.eqFields, if_pos hne]
  cases b <;> simp [hx, hy, he]
set_option maxRecDepth 10000 in
set_option maxHeartbeats 2000000 in
theorem equal_vote (a b : VoteV) (w : World) : (Op.equalIn 10000 26 (vV a) (vV b)).run Try.prog w = .ok (vtEq a b) w := by
  obtain ⟨ib, hib, _, hzb, _⟩ := info_parts info_byte
  rw [run_equalIn_agg w 9999 26 _ _ Try.underlying26 (by kernel_rfl)]
  have hf : (Try.prog.fieldsOf 26).toList = [{ name := "Kind", type := 3, offset := 0, embedded := false, tag := "", pkgPath := "", byteOffset := 0 }, { name := "Slot", type := 3, offset := 1, embedded := false, tag := "", pkgPath := "", byteOffset := 8 }, { name := "Round", type := 3, offset := 2, embedded := false, tag := "", pkgPath := "", byteOffset := 16 }, { name := "Choice", type := 3, offset := 3, embedded := false, tag := "", pkgPath := "", byteOffset := 24 }, { name := "Signer", type := 3, offset := 4, embedded := false, tag := "", pkgPath := "", byteOffset := 32 }, { name := "Support", type := 22, offset := 5, embedded := false, tag := "", pkgPath := "", byteOffset := 40 }, { name := "Parent", type := 24, offset := 6, embedded := false, tag := "", pkgPath := "", byteOffset := 48 }, { name := "Value", type := 24, offset := 14, embedded := false, tag := "", pkgPath := "", byteOffset := 56 }] := by kernel_rfl
  rw [hf]
  have ei : ∀ x y : Int, (Op.equalIn 9999 3 (.int .i64 x) (.int .i64 y)).run Try.prog w = .ok (x == y) w := fun x y => run_equalIn_int w 9998 3 .i64 .i64 x y Try.underlying3
  have em : ∀ x y : Int, (Op.equalIn 9999 22 (.int .i64 x) (.int .i64 y)).run Try.prog w = .ok (x == y) w := fun x y => run_equalIn_int w 9998 22 .i64 .i64 x y Try.underlying22
  have en : ∀ x y : BitVec 64, (Op.equalIn 9999 24 (nm x) (nm y)).run Try.prog w = .ok (nmEq x y) w := fun x y => run_equalIn_nm Try.underlying24 Try.underlying5 hib hzb 9997 x y w
  have pi : ∀ (v : VoteV) (off : Nat) (x : Value), (voteC v)[off]? = some x → (part 3 (voteC v) off).run Try.prog w = .ok x w := fun v off x h => part_int Try.underlying3 _ _ _ h w
  have pm : ∀ (v : VoteV) (off : Nat) (x : Value), (voteC v)[off]? = some x → (part 22 (voteC v) off).run Try.prog w = .ok x w := fun v off x h => part_int Try.underlying22 _ _ _ h w
  have pn : ∀ (v : VoteV) (off : Nat) (x : BitVec 64), (voteC v).extract off (off + 8) = nmC x → (part 24 (voteC v) off).run Try.prog w = .ok (nm x) w := fun v off x h => part_name Try.underlying24 name_info _ _ _ h w
  rw [eq_step _ _ _ _ _ _ _ (by decide) (pi a 0 (.int .i64 a.kind) rfl) (pi b 0 (.int .i64 b.kind) rfl) (ei _ _), eq_step _ _ _ _ _ _ _ (by decide) (pi a 1 (.int .i64 a.slot) rfl) (pi b 1 (.int .i64 b.slot) rfl) (ei _ _), eq_step _ _ _ _ _ _ _ (by decide) (pi a 2 (.int .i64 a.round) rfl) (pi b 2 (.int .i64 b.round) rfl) (ei _ _),
    eq_step _ _ _ _ _ _ _ (by decide) (pi a 3 (.int .i64 a.choice) rfl) (pi b 3 (.int .i64 b.choice) rfl) (ei _ _), eq_step _ _ _ _ _ _ _ (by decide) (pi a 4 (.int .i64 a.signer) rfl) (pi b 4 (.int .i64 b.signer) rfl) (ei _ _), eq_step _ _ _ _ _ _ _ (by decide) (pm a 5 (.int .i64 a.sup) rfl) (pm b 5 (.int .i64 b.sup) rfl) (em _ _),
    eq_step _ _ _ _ _ _ _ (by decide) (pn a 6 a.parent rfl) (pn b 6 b.parent rfl) (en _ _), eq_step _ _ _ _ _ _ _ (by decide) (pn a 14 a.value rfl) (pn b 14 b.value rfl) (en _ _)]
  have hn : (Op.eqFields 9999 (voteC a) (voteC b) []).run Try.prog w = .ok true w := rfl
  rw [hn]
  obtain ⟨a1, a2, a3, a4, a5, a6, a7, a8⟩ := a
  obtain ⟨b1, b2, b3, b4, b5, b6, b7, b8⟩ := b
  unfold vtEq
  dsimp only
  by_cases h1 : a1 = b1
  case neg => simp [h1]
  subst h1
  by_cases h2 : a2 = b2
  case neg => simp [h2]
  subst h2
  by_cases h3 : a3 = b3
  case neg => simp [h3]
  subst h3
  by_cases h4 : a4 = b4
  case neg => simp [h4]
  subst h4
  by_cases h5 : a5 = b5
  case neg => simp [h5]
  subst h5
  by_cases h6 : a6 = b6
  case neg => simp [h6]
  subst h6
  by_cases h7 : a7 = b7
  case neg => simp [nmEq, h7]
  subst h7
  by_cases h8 : a8 = b8
  case neg => simp [nmEq, h8]
  subst h8
  simp [nmEq]
theorem eqGuard_vote : Try.prog.eqGuardType Try.prog.depth 26 = false := by kernel_rfl
theorem vote_size : (Try.prog.info? 26).map (·.size) = some 22 := by kernel_rfl
/-- The cells of a vote, closed. -/
def voteL (v : VoteV) : List Value := (voteC v).toList
theorem voteL_len (v : VoteV) : (voteL v).length = 22 := rfl
theorem vote_range {w : World} {g : Nat} {t : TypeId} {v : VoteV} (h : Is w g t (voteC v)) : w.rangeAt g 0 (voteL v) := range_is (cs := voteL v) h
theorem equal_voteL (a b : VoteV) (w : World) : (Op.equalIn 10000 26 (.agg (voteL a).toArray) (.agg (voteL b).toArray)).run Try.prog w = .ok (vtEq a b) w := equal_vote a b w
/-- A load of a row, guarded or not. -/
theorem wpList_load_w {P : Program} {ops : Array Oper} {rest : List Oper} {op : Oper} {a : Act} {w : World} {Q : Exit → Act → World → Prop} (hw : Region.wanted op (yielded ops a.tmps) = true) (ty : TypeId) (x : Operand) (ho : op.op = .load ty x)
    (b o : Nat) (hx : a.eval x = .pointer (some ⟨b, o, none⟩)) (cs : List Value) (d : TypeDesc) (hc : w.rangeAt b o cs)
    (hu : P.underlying ty = some d) (hd : d.isRow = true) (hi : (P.info? ty).map (·.size) = some cs.length)
    (h : wpList P ops Q rest (a.put op.dst (.agg cs.toArray)) w) : wpList P ops Q (op :: rest) a w :=
  BigFrame.wpList_want hw fun _ hK => wp_load_mid ty x ho b o hx cs d hc hu hd hi (hK _ _ h)
def twoW (w : World) (a b : VoteV) : World := (w.alloc (.cells (voteC a) 26)).alloc (.cells (voteC b) 26)
theorem twoW_facts (w : World) (a b : VoteV) : Is (twoW w a b) w.heap.size 26 (voteC a) ∧ Is (twoW w a b) (w.heap.size + 1) 26 (voteC b) ∧ Fr w 2 (twoW w a b) :=
  ⟨(Is.new w _ _).old _, Is.newAt _ _ _ (by simp), ((Fr.refl w).alloc _).alloc _⟩
theorem cells1 : Try.prog.cellsOf 5 = 1 := by kernel_rfl
theorem cells8 : Try.prog.cellsOf 24 = 8 := by kernel_rfl
theorem bytes1 : Try.prog.bytesOf 5 = 1 := by kernel_rfl
theorem bytes8 : Try.prog.bytesOf 24 = 8 := by kernel_rfl
theorem cellsI7 : Try.prog.cellsOf 3 = 1 := by kernel_rfl
theorem cellsM7 : Try.prog.cellsOf 22 = 1 := by kernel_rfl
theorem int_size : (Try.prog.info? 3).map (·.size) = some 1 := by kernel_rfl
theorem own : ownKnob Try.prog.godebug = none := by kernel_rfl
def rI7 : Rep Try.prog 3 Int := repInt Try.underlying3 cellsI7
def rM7 : Rep Try.prog 22 Int := repInt Try.underlying22 cellsM7
def rN7 : Rep Try.prog 24 (BitVec 64) := repName Try.underlying24 Try.underlying5 cells1 cells8
/-- How a vote's cells spell it. -/
def rVote : Rep Try.prog 26 (Int × Int × Int × Int × Int × Int × BitVec 64 × BitVec 64 × Unit) :=
  repStruct Try.underlying26 rfl
    (repCons rI7 rfl (o2 := 1) (by kernel_rfl) (repCons rI7 rfl (o2 := 2) (by kernel_rfl) (repCons rI7 rfl (o2 := 3) (by kernel_rfl) (repCons rI7 rfl (o2 := 4) (by kernel_rfl) (repCons rI7 rfl (o2 := 5) (by kernel_rfl) (repCons rM7 rfl (o2 := 6) (by kernel_rfl)
      (repCons rN7 rfl (o2 := 14) (by kernel_rfl) (repCons rN7 rfl (o2 := 22) (by kernel_rfl) (repNil _ 22))))))))) (by kernel_rfl)
set_option maxRecDepth 100000 in
theorem rVote_form {w : World} {x : Int × Int × Int × Int × Int × Int × BitVec 64 × BitVec 64 × Unit} {cs : List Value} (h : rVote.is w x cs) (hf : rVote.fine x) : ∃ v : VoteV, cs = (voteC v).toList ∧ v.I := by
  obtain ⟨c1, c2, rfl, h1, c3, c4, rfl, h2, c5, c6, rfl, h3, c7, c8, rfl, h4, c9, c10, rfl, h5, c11, c12, rfl, h6, c13, c14, rfl, h7, c15, c16, rfl, h8, h9⟩ := h
  cases h1; cases h2; cases h3; cases h4; cases h5; cases h6; cases h7; cases h8; cases h9
  obtain ⟨f1, f2, f3, f4, f5, f6, -⟩ := hf
  exact ⟨⟨x.1, x.2.1, x.2.2.1, x.2.2.2.1, x.2.2.2.2.1, x.2.2.2.2.2.1, x.2.2.2.2.2.2.1, x.2.2.2.2.2.2.2.1⟩, rfl, f1, f2, f3, f4, f5, f6⟩
set_option maxRecDepth 100000 in
/-- A vote that came in. -/
theorem open_vote {H : Type} {enc : TypeId × Value → H} {w : World} {base : Nat} {v : Value} {d : DataW H} {p : List MemPlace} (hok : Value.okWide Try.prog w .any base 26 v)
    (h : DataW.Trod enc Try.prog w 0 (fun _ => true) true 26 v d p) (hlt : ∀ x ∈ p, x.block < w.heap.size)
    {tys : List TypeId} {ds : List (DataW H)} (hsz : (DataW.weightsEach Try.prog tys ds).all (· ≤ reachBytes) = true) {j : Nat} (hj : tys[j]? = some 26) (hd : ds[j]? = some d) : ∃ x : VoteV, v = vV x ∧ x.I := by
  obtain ⟨cs, rfl, _, _⟩ : ∃ cs, v = .agg cs ∧ cs.size = Try.prog.cellsOf 26 ∧ Row.okWide Try.prog w .any base 26 cs := by
    simpa [Value.okWide, Try.underlying26] using hok
  obtain ⟨y, h1, h2⟩ := open_repA rVote h hlt hsz hj hd
  obtain ⟨x, e, hx⟩ := rVote_form h1 h2
  refine ⟨x, ?_, hx⟩
  have : cs = voteC x := by
    cases cs
    simp_all
  rw [this]
def threeW (w : World) (a b c : VoteV) : World := (twoW w a b).alloc (.cells (voteC c) 26)
theorem threeW_facts (w : World) (a b c : VoteV) : Is (threeW w a b c) w.heap.size 26 (voteC a) ∧ Is (threeW w a b c) (w.heap.size + 1) 26 (voteC b) ∧ Is (threeW w a b c) (w.heap.size + 2) 26 (voteC c) ∧ Fr w 3 (threeW w a b c) := by
  obtain ⟨h1, h2, h3⟩ := twoW_facts w a b
  exact ⟨h1.old _, h2.old _, Is.newAt _ _ _ (by simp [twoW]), h3.alloc _⟩
def oneW (w : World) (a : VoteV) : World := w.alloc (.cells (voteC a) 26)
theorem oneW_facts (w : World) (a : VoteV) : Is (oneW w a) w.heap.size 26 (voteC a) ∧ Fr w 1 (oneW w a) := ⟨Is.new w _ _, (Fr.refl w).alloc _⟩
/-- A vote in a block, later. -/
theorem vote_later {W : World} {g : Nat} {a : VoteV} (h : Is W g 26 (voteC a)) : ∀ w' : World, Below W.heap.size W w' → w'.rangeAt g 0 (voteL a) := fun _ hb => vote_range (h.next hb)
end Go.Proofs.Ytpnmmfacnflngaa
